/-
  OWN TEXTS.
-/
import Derived.Test.YtjohdbiipeedkaaGreatDoorPart2
import Derived.Lib.SmallJoins
import Derived.Deep.SlicePairs
import Derived.Deep.RegionHeld3
set_option maxRecDepth 10000
set_option maxHeartbeats 4000000
namespace Go.Proofs.YtjohdbiipeedkaaGreatDoor.Kit
def pgB (p : Int) : Bk := ⟨p, 0, 0⟩
def Apt (P l : List Bk) : Prop := ∀ k, k < l.length → ¬ ovlP (P ++ l.take k) (l.getD k .zero).a (l.getD k .zero).o
theorem getD_append_left {α : Type} (l m : List α) (k : Nat) (d : α) (h : k < l.length) : (l ++ m).getD k d = l.getD k d := by
 simp [List.getD_eq_getElem?_getD, List.getElem?_append_left h]
theorem getD_append_right {α : Type} (l m : List α) (k : Nat) (d : α) : (l ++ m).getD (l.length + k) d = m.getD k d := by
 simp [List.getD_eq_getElem?_getD, List.getElem?_append_right]
theorem apt_nil (P : List Bk) : Apt P [] := fun k hk => absurd hk (by simp)
theorem apt_append (P l m : List Bk) : Apt P (l ++ m) ↔ Apt P l ∧ Apt (P ++ l) m := by
 constructor
 ·intro h
  refine ⟨fun k hk => ?_, fun k hk => ?_⟩
  ·have := h k (by simp; omega)
   rwa [getD_append_left _ _ _ _ hk, List.take_append_of_le_length (by omega)] at this
  have := h (l.length + k) (by simp; omega)
  rw [getD_append_right, List.take_append] at this
  rw [List.take_of_length_le (by omega), show l.length + k - l.length = k by omega, ← List.append_assoc] at this
  exact this
 rintro ⟨h1, h2⟩ k hk
 by_cases hlt : k < l.length
 ·rw [getD_append_left _ _ _ _ hlt, List.take_append_of_le_length (by omega)]
  exact h1 k hlt
 obtain ⟨j, rfl⟩ : ∃ j, k = l.length + j := ⟨k - l.length, by omega⟩
 rw [getD_append_right, List.take_append, List.take_of_length_le (by omega), show l.length + j - l.length = j by omega, ← List.append_assoc]
 exact h2 j (by simp at hk; omega)
theorem apt_one (P : List Bk) (b : Bk) : Apt P [b] ↔ ¬ ovlP P b.a b.o := by
 constructor
 ·intro h
  have := h 0 (by simp)
  simpa using this
 intro h k hk
 obtain rfl : k = 0 := by simp at hk; omega
 simpa using h
theorem apt_take_succ (P l : List Bk) (k : Nat) (hk : k < l.length) : Apt P (l.take (k + 1)) ↔ Apt P (l.take k) ∧ ¬ ovlP (P ++ l.take k) (l.getD k .zero).a (l.getD k .zero).o := by
 rw [take_getD l k hk rfl, apt_append, apt_one]
theorem apt_take {P l : List Bk} (h : Apt P l) (k : Nat) : Apt P (l.take k) := by
 have := (List.take_append_drop k l).symm
 rw [this, apt_append] at h
 exact h.1
def cov (P : List Bk) (p : Int) : Bool := P.any fun b => decide (b.a ≤ p ∧ p < b.a + pw b.o)
theorem cov_append (P Q : List Bk) (p : Int) : cov (P ++ Q) p = (cov P p || cov Q p) := by simp [cov]
theorem cov_one (b : Bk) (p : Int) : cov [b] p = decide (b.a ≤ p ∧ p < b.a + pw b.o) := by simp [cov]
theorem ovlP_mem (P : List Bk) (a o : Int) : ovlP P a o ↔ ∃ b ∈ P, b.a < a + pw o ∧ a < b.a + pw b.o := by
 constructor
 ·rintro ⟨i, hi, h⟩
  exact ⟨_, getD_mem (d := Bk.zero) hi, h⟩
 rintro ⟨b, hb, h⟩
 obtain ⟨i, hi, rfl⟩ := List.getElem_of_mem hb
 refine ⟨i, hi, ?_⟩
 rw [List.getD_eq_getElem?_getD, List.getElem?_eq_getElem hi]
 exact h
theorem cov_ovl (P : List Bk) (a o : Int) : (∃ p, a ≤ p ∧ p < a + pw o ∧ cov P p = true) ↔ ovlP P a o := by
 rw [ovlP_mem]
 constructor
 ·rintro ⟨p, h1, h2, h3⟩
  obtain ⟨b, hb, hd⟩ := List.any_eq_true.1 h3
  have := of_decide_eq_true hd
  exact ⟨b, hb, by omega, by omega⟩
 rintro ⟨b, hb, h1, h2⟩
 have p1 := pw_pos o
 have p2 := pw_pos b.o
 by_cases h : a ≤ b.a
 ·exact ⟨b.a, h, h1, List.any_eq_true.2 ⟨b, hb, decide_eq_true (by omega)⟩⟩
 exact ⟨a, by omega, by omega, List.any_eq_true.2 ⟨b, hb, decide_eq_true (by omega)⟩⟩
def placed (H : Hp) : List Bk := H.zones.flatMap (·.free) ++ (H.lists.flatMap (fun l => l.pages.map pgB) ++ H.live)
def aheadL (a b : Ls) : Prop := a.c < b.c ∨ a.c = b.c ∧ (a.z < b.z ∨ a.z = b.z ∧ a.t < b.t)
structure LsOk (H : Hp) (l : Ls) : Prop where
 c : 0 ≤ l.c ∧ l.c < H.cpus
 z : 0 ≤ l.z ∧ l.z < 2
 t : typeOk l.t
 n : 1 ≤ l.pages.length ∧ l.pages.length ≤ 8
 p : ∀ i, i < l.pages.length → (H.zones.getD l.z.toNat ⟨0, 0, [], []⟩).f ≤ l.pages.getD i 0 ∧ l.pages.getD i 0 < (H.zones.getD l.z.toNat ⟨0, 0, [], []⟩).t
def Ls.zero : Ls := ⟨0, 0, 0, []⟩
structure LvOk (b : Bk) : Prop where
 o : ordOk b.o
 a : 0 ≤ b.a ∧ b.a < 256
 m : b.a % pw b.o = 0
 t : typeOk b.t
def Zn.zero : Zn := ⟨0, 0, [], []⟩
structure ZsOk (H : Hp) : Prop where
 n : H.zones.length = 2
 m0 : ZMay (H.zones.getD 0 ⟨0, 0, [], []⟩)
 m1 : ZMay (H.zones.getD 1 ⟨0, 0, [], []⟩)
 f0 : (H.zones.getD 0 ⟨0, 0, [], []⟩).f = 0
 f1 : (H.zones.getD 1 ⟨0, 0, [], []⟩).f = (H.zones.getD 0 ⟨0, 0, [], []⟩).t
 t1 : (H.zones.getD 1 ⟨0, 0, [], []⟩).t = 256
structure MnOk (H : Hp) : Prop where
 n : H.mins.length = 2
 a : 0 ≤ H.mins.getD 0 0 ∧ H.mins.getD 0 0 ≤ 256
 b : 0 ≤ H.mins.getD 1 0 ∧ H.mins.getD 1 0 ≤ 256
structure LssOk (H : Hp) : Prop where
 ok : ∀ i, i < H.lists.length → LsOk H (H.lists.getD i .zero)
 ord : ∀ i, 0 < i → i < H.lists.length → aheadL (H.lists.getD (i - 1) .zero) (H.lists.getD i .zero)
structure LvsOk (l : List Bk) : Prop where
 ok : ∀ i, i < l.length → LvOk (l.getD i .zero)
 ord : ∀ i, 0 < i → i < l.length → (l.getD (i - 1) .zero).a < (l.getD i .zero).a
structure HMay (H : Hp) : Prop where
 zs : ZsOk H
 mn : MnOk H
 cpus : 1 ≤ H.cpus ∧ H.cpus ≤ 4
 ls : LssOk H
 lv : LvsOk H.live
 apart : Apt [] (placed H)
def InP (b : Bk) : Prop := ordOk b.o ∧ 0 ≤ b.a ∧ b.a + pw b.o ≤ 256
theorem LvOk.inP {b : Bk} (h : LvOk b) : InP b := by
 refine ⟨h.o, h.a.1, ?_⟩
 have h1 := h.m
 have h2 := h.a
 rcases (show b.o = 0 ∨ b.o = 1 ∨ b.o = 2 ∨ b.o = 3 ∨ b.o = 4 by have := h.o; unfold ordOk at this; omega) with e | e | e | e | e <;> rw [e] at h1 ⊢ <;> simp only [pw] at h1 ⊢ <;> (try simp only [show Int.toNat 0 = 0 by rfl, show Int.toNat 1 = 1 by rfl, show Int.toNat 2 = 2 by rfl, show Int.toNat 3 = 3 by rfl, show Int.toNat 4 = 4 by rfl, Nat.reducePow] at h1 ⊢) <;> omega
open Go Go.RowKit
def RetAny (w' : World) (Z : Zn) (c : Int) (e : Ending) : Prop :=
 ∃ fo fn fc to_ tn tc, e = .returned (.tuple #[.agg #[.int .i64 Z.f, .int .i64 Z.t, .slice fo fn fc, .slice to_ tn tc], .int .i64 c]) ∧ ZnAt w' fo fn to_ tn Z
def RetZ (B : Nat) (w' : World) (z : Zn) (e : Ending) : Prop :=
 ∃ fo fn fc to_ tn tc, e = .returned (.agg #[.int .i64 z.f, .int .i64 z.t, .slice fo fn fc, .slice to_ tn tc]) ∧ ZnAt w' fo fn to_ tn z ∧ Fresh B fo ∧ Fresh B to_
theorem RetZone.any {B : Nat} {w' : World} {Z : Zn} {e : Ending} (h : RetZone B w' Z e) : RetAny w' Z 0 e := by
 obtain ⟨fo, fn, fc, to_, tn, tc, he, hz, _, _⟩ := h
 exact ⟨fo, fn, fc, to_, tn, tc, he, hz⟩
theorem RetNone.any {c : Int} {w' : World} {e : Ending} (h : RetNone c e) : RetAny w' ⟨0, 0, [], []⟩ c e :=
 ⟨none, 0, 0, none, 0, 0, h, ⟨Blks.nil _, Nums.nil _⟩⟩
end Go.Proofs.YtjohdbiipeedkaaGreatDoor.Kit
namespace Go.Proofs.YtjohdbiipeedkaaGreatDoor
open Go Go.RowKit Go.Proofs.YtjohdbiipeedkaaGreatDoor.Kit
theorem info_block : (Tryz.prog.info? 40).map (fun i => (i.zero, i.size, i.bytes)) = some (some (.agg #[.int .i64 0, .int .i64 0, .int .i64 0]), 3, 24) := by kernel_rfl
theorem size_block : (Tryz.prog.info? 40).map (·.size) = some 3 := by kernel_rfl
end Go.Proofs.YtjohdbiipeedkaaGreatDoor
namespace Go.Proofs.YtjohdbiipeedkaaGreatDoor.Kit
open Go Go.RowKit
def Sized {H : Type} (P : Program) (t : TypeId) (d : DataW H) : Prop := ∀ n ∈ d.weights P t, n ≤ reachBytes
theorem sized_arg {H : Type} {P : Program} {ts : List TypeId} {ds : List (DataW H)} (h : (DataW.weightsEach P ts ds).all (· ≤ reachBytes) = true) {j : Nat} {t : TypeId} {d : DataW H} (ht : ts[j]? = some t) (hd : ds[j]? = some d) : Sized P t d := by
 intro n hn
 have := List.all_eq_true.1 h _ (DataW.weights_mem_each ht hd n hn)
 simpa using this
theorem sized_sl {H : Type} {P : Program} {t e : TypeId} {elems spare : List (DataW H)} (h : Sized P t (.slice elems spare)) (ht : P.underlying t = some (.slice e)) : (elems.length + spare.length) * P.bytesOf e ≤ reachBytes :=
 h _ (by simp [DataW.weights, ht])
open Go Go.RowKit Go.ChangeShapes Go.WideShapes Go.ChangeAt Go.Joins Go.Deep
structure Bk.Fits (b : Bk) : Prop where
 a : (Lit.int .i64 b.a).wf = true
 o : (Lit.int .i64 b.o).wf = true
 t : (Lit.int .i64 b.t).wf = true
structure IsBlks (w : World) (ao : Option Addr) (n cap : Nat) (l : List Bk) : Prop where
 len : l.length = n
 le : n ≤ cap
 reach : cap * 24 ≤ 140737488351232
 at_ : BlksAt w ao l
 wf : ∀ i, i < n → (l.getD i .zero).Fits
structure IsZone (w : World) (fo : Option Addr) (fn fc : Nat) (to_ : Option Addr) (tn tc : Nat) (z : Zn) : Prop where
 fr : IsBlks w fo fn fc z.free
 ty : IsInts w to_ tn tc z.types
 wf : (Lit.int .i64 z.f).wf = true
 wt : (Lit.int .i64 z.t).wf = true
theorem IsZone.zn {w : World} {fo : Option Addr} {fn fc : Nat} {to_ : Option Addr} {tn tc : Nat} {z : Zn} (h : IsZone w fo fn fc to_ tn tc z) : ZnAt w fo fn to_ tn z :=
 ⟨⟨h.fr.len, by have := h.fr.reach; have := h.fr.le; omega, h.fr.at_⟩, ⟨h.ty.len, by have := h.ty.reach; have := h.ty.le; omega, h.ty.at_⟩⟩
structure ZFits (z : Zn) : Prop where
 f : (Lit.int .i64 z.f).wf = true
 t : (Lit.int .i64 z.t).wf = true
 fr : ∀ i, i < z.free.length → (z.free.getD i .zero).Fits
theorem IsZone.fits {w : World} {fo : Option Addr} {fn fc : Nat} {to_ : Option Addr} {tn tc : Nat} {z : Zn} (h : IsZone w fo fn fc to_ tn tc z) : ZFits z := ⟨h.wf, h.wt, fun i hi => h.fr.wf i (by have := h.fr.len; omega)⟩
structure Lc.Fits (x : Lc) : Prop where
 c : (Lit.int .i64 x.l.c).wf = true
 z : (Lit.int .i64 x.l.z).wf = true
 t : (Lit.int .i64 x.l.t).wf = true
structure IsHeap (w : World) (x : Hx) : Prop where
 at_ : x.At w
 zf : ∀ z ∈ x.zs, ZFits z.z
 lf : ∀ l ∈ x.ls, l.Fits
 vf : ∀ i, i < x.vn → (x.live.getD i .zero).Fits
 cf : (Lit.int .i64 x.cpus).wf = true
section
variable {H : Type} {enc : TypeId × Value → H} {P : Program} {W : World} {fuel : Nat} {v : Value} {y : DataW H × List MemPlace}
end
structure HeapTypes (P : Program) (ht zst zt bst bt ist it lst lt : TypeId) : Prop where
 heap : ∃ f0 f1 f2 f3 f4 : Field, P.underlying ht = some (.struct #[f0, f1, f2, f3, f4]) ∧ oneCellFields P #[f0, f1, f2, f3, f4] = true ∧ f0.type = zst ∧ f1.type = ist ∧ f2.type = it ∧ f3.type = lst ∧ f4.type = bst
 hc : P.cellsOf ht = 5
 zones : P.underlying zst = some (.slice zt)
 zone : ∃ f0 f1 f2 f3 : Field, P.underlying zt = some (.struct #[f0, f1, f2, f3]) ∧ oneCellFields P #[f0, f1, f2, f3] = true ∧ f0.type = it ∧ f1.type = it ∧ f2.type = bst ∧ f3.type = ist
 zcell : P.cellsOf zt = 4
 zbytes : P.bytesOf zt = 64
 blocks : P.underlying bst = some (.slice bt)
 block : ∃ f0 f1 f2 : Field, P.underlying bt = some (.struct #[f0, f1, f2]) ∧ oneCellFields P #[f0, f1, f2] = true ∧ f0.type = it ∧ f1.type = it ∧ f2.type = it
 bcell : P.cellsOf bt = 3
 bbytes : P.bytesOf bt = 24
 ints : P.underlying ist = some (.slice it)
 int : P.underlying it = some (.int .i64)
 icell : P.cellsOf it = 1
 ibytes : P.bytesOf it = 8
 lists : P.underlying lst = some (.slice lt)
 list : ∃ f0 f1 f2 f3 : Field, P.underlying lt = some (.struct #[f0, f1, f2, f3]) ∧ oneCellFields P #[f0, f1, f2, f3] = true ∧ f0.type = it ∧ f1.type = it ∧ f2.type = it ∧ f3.type = ist
 lcell : P.cellsOf lt = 4
 lbytes : P.bytesOf lt = 48
end Go.Proofs.YtjohdbiipeedkaaGreatDoor.Kit
namespace Go.Proofs.YtjohdbiipeedkaaGreatDoor
open Go Go.RowKit Go.Proofs.YtjohdbiipeedkaaGreatDoor.Kit
theorem info_zone : (Tryz.prog.info? 54).map (fun i => (i.zero, i.size, i.bytes)) = some (some (.agg #[.int .i64 0, .int .i64 0, .slice none 0 0, .slice none 0 0]), 4, 64) := by kernel_rfl
theorem info_list : (Tryz.prog.info? 69).map (fun i => (i.zero, i.size, i.bytes)) = some (some (.agg #[.int .i64 0, .int .i64 0, .int .i64 0, .slice none 0 0]), 4, 48) := by kernel_rfl
theorem size_zone : (Tryz.prog.info? 54).map (·.size) = some 4 := by kernel_rfl
theorem size_list : (Tryz.prog.info? 69).map (·.size) = some 4 := by kernel_rfl
theorem heapTypes : HeapTypes Tryz.prog 34 29 54 32 40 30 3 31 69 where
 heap := ⟨_, _, _, _, _, Tryz.underlying34, by kernel_rfl, rfl, rfl, rfl, rfl, rfl⟩
 hc := by kernel_rfl
 zones := Tryz.underlying29
 zone := ⟨_, _, _, _, Tryz.underlying54, by kernel_rfl, rfl, rfl, rfl, rfl⟩
 zcell := by kernel_rfl
 zbytes := by kernel_rfl
 blocks := Tryz.underlying32
 block := ⟨_, _, _, Tryz.underlying40, by kernel_rfl, rfl, rfl, rfl⟩
 bcell := by kernel_rfl
 bbytes := by kernel_rfl
 ints := Tryz.underlying30
 int := Tryz.underlying3
 icell := by kernel_rfl
 ibytes := by kernel_rfl
 lists := Tryz.underlying31
 list := ⟨_, _, _, _, Tryz.underlying69, by kernel_rfl, rfl, rfl, rfl, rfl⟩
 lcell := by kernel_rfl
 lbytes := by kernel_rfl
theorem pIsMin_any (w : World) (x : Int) :
    Calls Tryz.prog 54 #[.int .i64 x] w fun e w' => e = .returned (.bool (inB x 0 256)) ∧ w = w' := by
 by_cases h1 : 0 ≤ x
 ·by_cases h2 : x ≤ 256
  ·have HR : Hid (inB x 0 256 = true) := inB_t (by omega)
   go_enter Tryz.func54, Tryz.ntmps54
   go_wp2
   go_ret
   exact ⟨ret_bool HR.out.symm, rfl⟩
  have HR : Hid (inB x 0 256 = false) := inB_f (by omega)
  go_enter Tryz.func54, Tryz.ntmps54
  go_wp2
  go_ret
  exact ⟨ret_bool HR.out.symm, rfl⟩
 have HR : Hid (inB x 0 256 = false) := inB_f (by omega)
 go_enter Tryz.func54, Tryz.ntmps54
 go_wp2
 go_ret
 exact ⟨ret_bool HR.out.symm, rfl⟩
theorem pAreCpus_any (w : World) (x : Int) :
    Calls Tryz.prog 33 #[.int .i64 x] w fun e w' => e = .returned (.bool (inB x 1 4)) ∧ w = w' := by
 by_cases h1 : 1 ≤ x
 ·by_cases h2 : x ≤ 4
  ·have HR : Hid (inB x 1 4 = true) := inB_t (by omega)
   go_enter Tryz.func33, Tryz.ntmps33
   go_wp2
   go_ret
   exact ⟨ret_bool HR.out.symm, rfl⟩
  have HR : Hid (inB x 1 4 = false) := inB_f (by omega)
  go_enter Tryz.func33, Tryz.ntmps33
  go_wp2
  go_ret
  exact ⟨ret_bool HR.out.symm, rfl⟩
 have HR : Hid (inB x 1 4 = false) := inB_f (by omega)
 go_enter Tryz.func33, Tryz.ntmps33
 go_wp2
 go_ret
 exact ⟨ret_bool HR.out.symm, rfl⟩
theorem pIsOrder_any (w : World) (x : Int) :
    Calls Tryz.prog 44 #[.int .i64 x] w fun e w' => e = .returned (.bool (inB x 0 4)) ∧ w = w' := by
 by_cases h1 : 0 ≤ x
 ·by_cases h2 : x ≤ 4
  ·have HR : Hid (inB x 0 4 = true) := inB_t (by omega)
   go_enter Tryz.func44, Tryz.ntmps44
   go_wp2
   go_ret
   exact ⟨ret_bool HR.out.symm, rfl⟩
  have HR : Hid (inB x 0 4 = false) := inB_f (by omega)
  go_enter Tryz.func44, Tryz.ntmps44
  go_wp2
  go_ret
  exact ⟨ret_bool HR.out.symm, rfl⟩
 have HR : Hid (inB x 0 4 = false) := inB_f (by omega)
 go_enter Tryz.func44, Tryz.ntmps44
 go_wp2
 go_ret
 exact ⟨ret_bool HR.out.symm, rfl⟩
theorem pIsType_any (w : World) (x : Int) :
    Calls Tryz.prog 57 #[.int .i64 x] w fun e w' => e = .returned (.bool (inB x 0 2)) ∧ w = w' := by
 by_cases h1 : 0 ≤ x
 ·by_cases h2 : x < 3
  ·have HR : Hid (inB x 0 2 = true) := inB_t (by omega)
   go_enter Tryz.func57, Tryz.ntmps57
   go_wp2
   go_ret
   exact ⟨ret_bool HR.out.symm, rfl⟩
  have HR : Hid (inB x 0 2 = false) := inB_f (by omega)
  go_enter Tryz.func57, Tryz.ntmps57
  go_wp2
  go_ret
  exact ⟨ret_bool HR.out.symm, rfl⟩
 have HR : Hid (inB x 0 2 = false) := inB_f (by omega)
 go_enter Tryz.func57, Tryz.ntmps57
 go_wp2
 go_ret
 exact ⟨ret_bool HR.out.symm, rfl⟩
theorem pIsCpu_any (w : World) (a b c d : Value) (n x : Int) :
    Calls Tryz.prog 38 #[.agg #[a, b, .int .i64 n, c, d], .int .i64 x] w fun e w' => e = .returned (.bool (inB x 0 (n - 1))) ∧ Below w.heap.size w w' := by
 have hb1 := below_box w (.cells #[a, b, .int .i64 n, c, d] 34)
 by_cases h1 : 0 ≤ x
 ·by_cases h2 : x < n
  ·have HR : Hid (inB x 0 (n - 1) = true) := inB_t (by omega)
   go_enter Tryz.func38, Tryz.ntmps38
   go_wp2
   go_ret
   exact ⟨ret_bool HR.out.symm, hb1⟩
  have HR : Hid (inB x 0 (n - 1) = false) := inB_f (by omega)
  go_enter Tryz.func38, Tryz.ntmps38
  go_wp2
  go_ret
  exact ⟨ret_bool HR.out.symm, hb1⟩
 have HR : Hid (inB x 0 (n - 1) = false) := inB_f (by omega)
 go_enter Tryz.func38, Tryz.ntmps38
 go_wp2
 go_ret
 exact ⟨ret_bool HR.out.symm, hb1⟩
theorem pIsPage_any (w : World) (f t x : Int) (u v : Value) :
    Calls Tryz.prog 80 #[.agg #[.int .i64 f, .int .i64 t, u, v], .int .i64 x] w fun e w' => e = .returned (.bool (inB x f (t - 1))) ∧ Below w.heap.size w w' := by
 have hb1 := below_box w (.cells #[.int .i64 f, .int .i64 t, u, v] 54)
 by_cases h1 : f ≤ x
 ·by_cases h2 : x < t
  ·have HR : Hid (inB x f (t - 1) = true) := inB_t (by omega)
   go_enter Tryz.func80, Tryz.ntmps80
   go_wp2
   go_ret
   exact ⟨ret_bool HR.out.symm, hb1⟩
  have HR : Hid (inB x f (t - 1) = false) := inB_f (by omega)
  go_enter Tryz.func80, Tryz.ntmps80
  go_wp2
  go_ret
  exact ⟨ret_bool HR.out.symm, hb1⟩
 have HR : Hid (inB x f (t - 1) = false) := inB_f (by omega)
 go_enter Tryz.func80, Tryz.ntmps80
 go_wp2
 go_ret
 exact ⟨ret_bool HR.out.symm, hb1⟩
def cmpI (a b : Int) : Int := if a < b then -1 else if b < a then 1 else 0
def orL : List Int → Int
 | [] => 0
 | x :: l => if x = 0 then orL l else x
theorem cmpNaN_any (w : World) (x : Int) : Calls Tryz.prog 100 #[.int .i64 x] w fun e w' => e = .returned (.bool false) ∧ w = w' := by
 have q : (x == x) = true := by simp
 go_enter Tryz.func100, Tryz.ntmps100
 go_wp2
 go_ret
 exact ⟨rfl, rfl⟩
theorem cmpCompare_any (w : World) (a b : Int) : Calls Tryz.prog 82 #[.int .i64 a, .int .i64 b] w fun e w' => e = .returned (.int .i64 (cmpI a b)) ∧ w = w' := by
 have HN := cmpNaN_any
 rcases (show a < b ∨ b < a ∨ a = b by omega) with h | h | h
 ·have HR : Hid (cmpI a b = -1) := by show _ = _; unfold cmpI; rw [if_pos h]
  go_enter Tryz.func82, Tryz.ntmps82
  go_wp2_with (go_at_call 100; refine (HN _ _).mono ?_; rintro e w' ⟨rfl, rfl⟩)
  go_ret
  exact ⟨by rw [HR.out]; rfl, rfl⟩
 ·have HR : Hid (cmpI a b = 1) := by show _ = _; unfold cmpI; rw [if_neg (by omega), if_pos h]
  go_enter Tryz.func82, Tryz.ntmps82
  go_wp2_with (go_at_call 100; refine (HN _ _).mono ?_; rintro e w' ⟨rfl, rfl⟩)
  go_ret
  exact ⟨by rw [HR.out]; rfl, rfl⟩
 have HR : Hid (cmpI a b = 0) := by show _ = _; unfold cmpI; rw [if_neg (by omega), if_neg (by omega)]
 subst h
 go_enter Tryz.func82, Tryz.ntmps82
 go_wp2_with (go_at_call 100; refine (HN _ _).mono ?_; rintro e w' ⟨rfl, rfl⟩)
 go_ret
 exact ⟨by rw [HR.out]; rfl, rfl⟩
theorem cmpOr_any (w : World) (ao : Option Addr) (n cap : Nat) (xs : List Int) (h : Nums w ao n xs) : Calls Tryz.prog 81 #[.slice ao n cap] w fun e w' => e = .returned (.int .i64 (orL xs)) ∧ w = w' := by
 have hn := h.len
 have hr := h.reach
 have hx := h.at_
 clear h
 go_enter Tryz.func81, Tryz.ntmps81
 go_wp2
 go_loopw [8] (fun i wr => ∃ k : Nat, k ≤ n ∧ i = .int .i64 k ∧ Hid (orL xs = orL (xs.drop k)) ∧ w = wr) (fun i _ => n - (intOf i).toNat)
 case atStart => exact ⟨0, Nat.zero_le _, rfl, rfl, rfl⟩
 case round =>
  obtain ⟨k, hk, rfl, hO, rfl⟩ := hrel
  by_cases hlt : k < n
  ·obtain ⟨b, off, x, rfl, c0, hX⟩ := hx.at k (by omega)
   have hd : xs.drop k = x :: xs.drop (k + 1) := by
    rw [List.drop_eq_getElem_cons (by omega)]
    congr 1
    have := hX.out
    rw [List.getD_eq_getElem?_getD, List.getElem?_eq_getElem (by omega)] at this
    exact this
   by_cases h0 : x = 0
   ·have HO : Hid (orL xs = orL (xs.drop (k + 1))) := by show _ = _; rw [hO.out, hd]; show (if x = 0 then _ else x) = _; rw [if_pos h0]
    subst h0
    clear hO hd hX
    go_wp2
    go_roundw
    case rel => exact ⟨k + 1, by omega, by go_num, HO, trivial⟩
    case measure => simp [intOf]; omega
   have HO : Hid (orL xs = x) := by show _ = _; rw [hO.out, hd]; show (if x = 0 then _ else x) = _; rw [if_neg h0]
   have h0' : (x == 0) = false := by simpa using h0
   clear hO hd hX
   go_wp2
   go_ret
   exact ⟨by rw [HO.out]; rfl, rfl⟩
  have HO : Hid (orL xs = 0) := by show _ = _; rw [hO.out, List.drop_eq_nil_of_le (by omega)]; rfl
  clear hO
  go_wp2
  go_ret
  exact ⟨by rw [HO.out]; rfl, rfl⟩
end Go.Proofs.YtjohdbiipeedkaaGreatDoor
namespace Go.Proofs.YtjohdbiipeedkaaGreatDoor.Kit
open Go Go.RowKit
theorem tkH {P : Program} {md : Region.Mode} {Q : Exit → Act → World → Prop} {S : World → Prop} {l : List Oper} (i : Nat) {oi : Oper} (v : Value) {fuel : Nat} {listed : Array Bool} {a a' : Act} {w : World} (hS : S w) (hi : l[i]? = some oi := by exact rfl)
    (hs : Region.noSelect l.toArray = true := by kernel_rfl) (hf : Region.free md l.toArray listed i = true := by kernel_rfl) (hr : (Region.ready md l.toArray listed).contains i = true := by kernel_rfl)
    (hQ : ∀ c a w, Q (.panic c) (a.put oi.dst v) w → Q (.panic c) a w := by exact fun _ _ _ h => h) (hg : oi.guard = none := by exact rfl)
    (ha : a.put oi.dst v = a' := by first | (simp only [Act.put, List.setIfInBounds_toArray, List.set_cons_zero, List.set_cons_succ] <;> exact rfl) | exact rfl)
    (hy : ∀ w, S w → (execOp a.eval oi).run P w = .ok (.value v) w := by intro wx hSx; go_simp)
    (h : wpAnyH P md l.toArray Q S fuel (listed.setIfInBounds i true) a' w) : wpAnyH P md l.toArray Q S (fuel + 1) listed a w := by
 subst ha
 exact takeH i hi hs hf hr hQ hg hy hS h
end Go.Proofs.YtjohdbiipeedkaaGreatDoor.Kit
namespace Go.Proofs.YtjohdbiipeedkaaGreatDoor
open Go Go.RowKit Go.Proofs.YtjohdbiipeedkaaGreatDoor.Kit
def Added (w' : World) (b : Nat) (h0 : Int → Bool) (a s : Nat) (e : Ending) : Prop :=
 (e = .returned (.bool true) ∧ (∀ p : Int, a ≤ p → p < a + s → h0 p = false) ∧ MarksAt w' b 101 (setH a s true h0)) ∨ (e = .returned (.bool false) ∧ ∃ p : Int, a ≤ p ∧ p < a + s ∧ h0 p = true)
theorem pAdd_any (w : World) (b : Nat) (h0 : Int → Bool) (a s : Nat) (hm : MarksAt w b 101 h0) (hfs : a + s ≤ 256) :
    Calls Tryz.prog 59 #[.pointer (some ⟨b, 0, none⟩), .int .i64 a, .int .i64 s] w fun e w' => Added w' b h0 a s e ∧ But b w w' := by
 have hlt := hm.lt
 go_enter Tryz.func59, Tryz.ntmps59
 go_wp2
 go_loopw [9] (fun i wr => ∃ k : Nat, k ≤ s ∧ i = .int .i64 k ∧ Hid (∀ p : Int, a ≤ p → p < a + k → h0 p = false) ∧ MarksAt wr b 101 (setH a k true h0) ∧ But b w wr) (fun i _ => s - (intOf i).toNat)
 case atStart => exact ⟨0, Nat.zero_le _, rfl, (fun p h1 h2 => by omega), (show w.heap[b]? = some (.cells (mk (setH (a : Int) (0 : Int) true h0)) _ _) by rw [mk_set0]; exact hm), But.refl _ _⟩
 case round =>
  obtain ⟨k, hk, rfl, hN, hM, hB⟩ := hrel
  by_cases hk1 : k < s
  ·have c1 := hM.cell (a + k) (by omega)
   have c2 := hM.fz (a + k)
   have hM' := hM.set (by omega)
   have hB' := hB.setCell (o := a + k) (.bool true)
   have e0 : setH a k true h0 ((a + k : Nat) : Int) = h0 ((a + k : Nat) : Int) := by unfold setH; rw [if_neg (by omega)]
   rw [e0] at c1
   cases hv : h0 ((a + k : Nat) : Int) with
   | true =>
    rw [hv] at c1
    have HF : Hid (∃ p : Int, a ≤ p ∧ p < a + s ∧ h0 p = true) := ⟨((a + k : Nat) : Int), by omega, by omega, hv⟩
    clear hM hM' hB' hN hm e0 hv
    go_wp2
    go_ret
    exact ⟨.inr ⟨rfl, HF.out⟩, hB⟩
   | false =>
    rw [hv] at c1
    have HN : Hid (∀ p : Int, a ≤ p → p < a + ((k + 1 : Nat) : Int) → h0 p = false) := fun p h1 h2 => by
     by_cases e : p = ((a + k : Nat) : Int)
     ·rw [e]; exact hv
     exact hN.out p h1 (by omega)
    clear hM hB hm hN e0 hv
    go_wp2
    go_roundw
    case rel => exact ⟨k + 1, by omega, by go_num, HN, hM', hB'⟩
    case measure => simp [intOf]; omega
  obtain rfl : k = s := by omega
  go_wp2
  go_ret
  exact ⟨.inl ⟨rfl, hN.out, hM⟩, hB⟩
def AddedL (w' : World) (b : Nat) (P l : List Bk) (e : Ending) : Prop :=
 (e = .returned (.bool true) ∧ Apt P l ∧ MarksAt w' b 101 (cov (P ++ l))) ∨ (e = .returned (.bool false) ∧ ¬ Apt P l)
theorem cov_set (P : List Bk) (c : Bk) (a s : Nat) (ha : (a : Int) = c.a) (hs : (s : Int) = pw c.o) (p : Int) : setH a s true (cov P) p = cov (P ++ [c]) p := by
 rw [cov_append, cov_one]
 unfold setH
 rw [ha, hs]
 by_cases h : c.a ≤ p ∧ p < c.a + pw c.o
 ·rw [if_pos h, decide_eq_true h]; simp
 rw [if_neg h, decide_eq_false h]; simp
theorem marks_cov {w : World} {b a s : Nat} {P : List Bk} {c : Bk} (ha : (a : Int) = c.a) (hs : (s : Int) = pw c.o) (h : MarksAt w b 101 (setH a s true (cov P))) : MarksAt w b 101 (cov (P ++ [c])) := by
 unfold MarksAt at h ⊢
 rw [h, mk_ext fun p _ => cov_set P c a s ha hs p]
theorem pAddBlocks_any (w : World) (b : Nat) (P l : List Bk) (ao : Option Addr) (n cap : Nat) (hm : MarksAt w b 101 (cov P)) (hl : Blks w ao n l) (hI : ∀ i, i < l.length → InP (l.getD i .zero)) (hne : 0 < n → ∀ a, ao = some a → a.block ≠ b) :
    Calls Tryz.prog 58 #[.pointer (some ⟨b, 0, none⟩), .slice ao n cap] w fun e w' => AddedL w' b P l e ∧ But b w w' := by
 have hn := hl.len
 have hr := hl.reach
 have hI' : Hid _ := hI
 clear hI
 go_enter Tryz.func58, Tryz.ntmps58
 go_wp2
 go_loopw [9] (fun i wr => ∃ k : Nat, k ≤ n ∧ i = .int .i64 k ∧ Hid (Apt P (l.take k)) ∧ MarksAt wr b 101 (cov (P ++ l.take k)) ∧ But b w wr) (fun i _ => n - (intOf i).toNat)
 case atStart => exact ⟨0, Nat.zero_le _, rfl, (by show Apt P _; simpa using apt_nil P), by simpa using hm, But.refl _ _⟩
 case round =>
  obtain ⟨k, hk, rfl, hA, hM, hB⟩ := hrel
  by_cases hlt : k < n
  ·obtain ⟨g, off, a, o, t, ha, c0, c1, c2, HX⟩ := (hB.blks hl (hne (by omega))).at_.at k (by omega)
   have hin := hI'.out k (by omega)
   rw [HX.out] at hin
   obtain ⟨h1, h2, h3⟩ := hin
   dsimp only at h1 h2 h3
   subst ha
   have hbb := below_box wr (.cells #[.int .i64 a, .int .i64 o, .int .i64 t] 40)
   have y0 : (wr.alloc (.cells #[.int .i64 a, .int .i64 o, .int .i64 t] 40)).cell? ⟨wr.heap.size, 0, none⟩ = some (.int .i64 a) := by go_simp
   have y1 : (wr.alloc (.cells #[.int .i64 a, .int .i64 o, .int .i64 t] 40)).cell? ⟨wr.heap.size, 1, none⟩ = some (.int .i64 o) := by go_simp
   obtain ⟨Wb, hWb⟩ : ∃ Wb, wr.alloc (.cells #[.int .i64 a, .int .i64 o, .int .i64 t] 40) = Wb := ⟨_, rfl⟩
   rw [hWb] at hbb y0 y1
   have HWb : Hid _ := hWb
   have hMb := hM.below hbb
   have hBb := hB.trans (But.of_below hbb)
   clear hWb
   have hp := pw_pos o
   have hp16 := pw_le h1
   have hw1 : IntKind.i64.wrap ((2 : Int) ^ o.toNat) = pw o := by rcases ord_cases h1 with ⟨rfl, e⟩ | ⟨rfl, e⟩ | ⟨rfl, e⟩ | ⟨rfl, e⟩ | ⟨rfl, e⟩ <;> (rw [e]; rfl)
   obtain ⟨S, hS⟩ : ∃ S : Nat, pw o = S := ⟨(pw o).toNat, by omega⟩
   obtain ⟨A, hA'⟩ : ∃ A : Nat, a = A := ⟨a.toNat, by omega⟩
   have HS : Hid (pw o = S) := hS
   rw [hS] at hp hp16 hw1 h3
   obtain ⟨o0, o4⟩ := id h1
   have HA' : Hid (a = A) := hA'
   rw [hA'] at y0 h3
   have hAdd := fun W (hm : MarksAt W b 101 (cov (P ++ l.take k))) => pAdd_any W b _ A S hm (by omega)
   have HAd : Hid _ := hAdd
   clear hS hAdd hA'
   go_wp2_with (rw [HWb.out])
   clear HWb c0 c1 c2
   have hSB : Below Wb.heap.size Wb { Wb with drawn := Wb.drawn + 1 } := (Below.refl Wb.heap.size Wb).drew
   have SB : But b Wb { Wb with drawn := Wb.drawn + 1 } := But.of_below hSB
   have hbn : wr.heap.size ≠ b := by have := hM.lt; omega
   have m0 : ∀ wx, But b Wb wx → wx.cell? ⟨wr.heap.size, 0, none⟩ = some (.int .i64 (A : Int)) := fun wx h => h.cell y0 hbn
   have m1 : ∀ wx, But b Wb wx → wx.cell? ⟨wr.heap.size, 1, none⟩ = some (.int .i64 o) := fun wx h => h.cell y1 hbn
   refine wp_region_peel (S := fun wx => But b Wb wx) 7 _ (by kernel_rfl) (by kernel_rfl) rfl ?_
   simp only [List.take_succ_cons, List.take_zero]
   refine tkH 0 (.pointer (some ⟨b, 0, none⟩)) SB (h:=?_)
   refine tkH 1 (.pointer (some ⟨wr.heap.size, 0, none⟩)) SB (h:=?_)
   refine tkH 2 (.int .i64 (A : Int)) SB (h:=?_)
   refine tkH 3 (.pointer (some ⟨wr.heap.size, 1, none⟩)) SB (h:=?_)
   refine tkH 4 (.int .i64 o) SB (h:=?_)
   refine tkH 5 (.int .i64 (S : Int)) SB (h:=?_)
   refine oneH 6 (by kernel_rfl) rfl rfl (fun K1 hK1 => ?_)
   go_simp
   refine (HAd.out _ (hMb.below hSB)).mono ?_
   rintro e wA ⟨hAd, hbA⟩
   have SA : But b Wb wA := (But.of_below hSB).trans hbA
   have hBA := hBb.trans SA
   rcases hAd with ⟨rfl, hfree, hM2⟩ | ⟨rfl, p, q1, q2, q3⟩
   ·have hno : ¬ ovlP (P ++ l.take k) (l.getD k .zero).a (l.getD k .zero).o := by
     rw [HX.out, ← cov_ovl]
     rintro ⟨p, q1, q2, q3⟩
     dsimp only at q1 q2
     rw [HS.out, HA'.out] at q2
     rw [HA'.out] at q1
     rw [hfree p q1 q2] at q3
     cases q3
    have hA2 : Hid (Apt P (l.take (k + 1))) := (apt_take_succ P l k (by omega)).2 ⟨hA.out, hno⟩
    have hM3 := marks_cov (c := ⟨a, o, t⟩) HA'.out.symm HS.out.symm hM2
    rw [List.append_assoc, ← take_getD l k (by omega) HX.out] at hM3
    refine hK1 _ _ SA ?_
    try simp only [Act.put, List.setIfInBounds_toArray, List.set_cons_zero, List.set_cons_succ]
    refine wpAnyH_done (by kernel_rfl) ?_ _
    show Oper.wp _ _ _ _ _ _
    clear hno hM2 hfree hMb hM hA hK1 m0 m1 SA hbA HAd hBb hB y0 y1 hw1
    go_wp2
    go_roundw
    case rel => exact ⟨k + 1, by omega, by go_num, hA2, hM3, hBA⟩
    case measure => simp [intOf]; omega
   have HF : Hid (¬ Apt P l) := fun hh => by
    have := ((apt_take_succ P l k (by omega)).1 (apt_take hh (k + 1))).2
    apply this
    rw [HX.out, ← cov_ovl]
    dsimp only
    rw [HS.out, HA'.out]
    exact ⟨p, q1, q2, q3⟩
   refine hK1 _ _ SA ?_
   try simp only [Act.put, List.setIfInBounds_toArray, List.set_cons_zero, List.set_cons_succ]
   refine wpAnyH_done (by kernel_rfl) ?_ _
   show Oper.wp _ _ _ _ _ _
   clear hMb hM hA hK1 m0 m1 SA hbA HAd hBb hB y0 y1 hw1 q3
   go_wp2
   go_ret
   exact ⟨.inr ⟨rfl, HF.out⟩, hBA⟩
  have e : l.take k = l := List.take_of_length_le (by omega)
  rw [e] at hA hM
  go_wp2
  go_ret
  exact ⟨.inl ⟨rfl, hA.out, hM⟩, hB⟩
theorem zero_pmarks (w : World) : (zeroValue 101).run Tryz.prog w = .ok (.agg (mk fun _ => false)) w := by kernel_rfl
def freeA (l : List Zc) : List Bk := l.flatMap fun z => z.z.free
def pageA (l : List Lc) : List Bk := l.flatMap fun x => x.l.pages.map pgB
theorem placed_eq (x : Hx) : placed x.hp = freeA x.zs ++ (pageA x.ls ++ x.live) := by
 unfold placed freeA pageA Hx.hp
 simp [List.flatMap_map]
theorem flatMap_take {α β : Type} (l : List α) (f : α → List β) (k : Nat) (h : k < l.length) (d : α) : (l.take (k + 1)).flatMap f = (l.take k).flatMap f ++ f (l.getD k d) := by
 rw [List.take_succ_eq_append_getElem h, List.flatMap_append, List.getD_eq_getElem?_getD, List.getElem?_eq_getElem h]
 simp
theorem flatMap_split {α β : Type} (l : List α) (f : α → List β) (k : Nat) : l.flatMap f = (l.take k).flatMap f ++ (l.drop k).flatMap f := by
 rw [← List.flatMap_append, List.take_append_drop]
theorem apt_mid {P l R : List Bk} (h : Apt [] (P ++ (l ++ R))) : Apt P l := by
 have := ((apt_append [] P (l ++ R)).1 h).2
 exact ((apt_append _ l R).1 this).1
theorem map_take_succ (l : List Int) (k : Nat) (h : k < l.length) : (l.take (k + 1)).map pgB = (l.take k).map pgB ++ [pgB (l.getD k 0)] := by
 rw [List.take_succ_eq_append_getElem h, List.map_append, List.getD_eq_getElem?_getD, List.getElem?_eq_getElem h]
 simp
theorem Blks.lt {w : World} {ao : Option Addr} {n : Nat} {l : List Bk} (h : Blks w ao n l) (hn : 0 < n) : ∀ a, ao = some a → a.block < w.heap.size := by
 intro a ha
 obtain ⟨b, off, e, c, _, _⟩ := h.at_ 0 (by have := h.len; omega)
 rw [ha] at e
 cases e
 have := World.block_lt_of_cell? w _ c
 exact this
structure ApI (w W0 : World) (x : Hx) (P : List Bk) (wr : World) : Prop where
 b : Below w.heap.size w wr
 but : But (w.heap.size + 1) W0 wr
 m : MarksAt wr (w.heap.size + 1) 101 (cov P)
 box : HBox wr w.heap.size (.slice x.zo x.zn x.zc) (.slice x.mo x.mn x.mc) (.int .i64 x.cpus) (.slice x.lo x.ln x.lc) (.slice x.vo x.vn x.vc)
theorem ApI.below {w W0 : World} {x : Hx} {P : List Bk} {wr wr' : World} (h : ApI w W0 x P wr) (hb : Below wr.heap.size wr wr') : ApI w W0 x P wr' :=
 ⟨h.b.trans (hb.mono h.b.size), h.but.trans (But.of_below hb), h.m.below hb, h.box.below hb⟩
theorem ApI.step {w W0 : World} {x : Hx} {P Q : List Bk} {wr wr' : World} (h : ApI w W0 x P wr) (hb : But (w.heap.size + 1) wr wr') (hm : MarksAt wr' (w.heap.size + 1) 101 (cov Q)) : ApI w W0 x Q wr' :=
 ⟨h.b.trans (hb.below (by omega) h.b.size), h.but.trans hb, hm, h.box.but hb (by omega)⟩
theorem pApart_any (w : World) (x : Hx) (hx : x.At w) (hz : ∀ z ∈ x.zs, ∀ i, i < z.z.free.length → InP (z.z.free.getD i .zero)) (hl : ∀ l ∈ x.ls, ∀ i, i < l.l.pages.length → 0 ≤ l.l.pages.getD i 0 ∧ l.l.pages.getD i 0 < 256) (hv : ∀ i, i < x.live.length → InP (x.live.getD i .zero)) :
    Calls Tryz.prog 36 #[.agg #[.slice x.zo x.zn x.zc, .slice x.mo x.mn x.mc, .int .i64 x.cpus, .slice x.lo x.ln x.lc, .slice x.vo x.vn x.vc]] w fun e w' => RetIff e (Apt [] (placed x.hp)) ∧ Below w.heap.size w w' := by
 have HPl := placed_eq x
 obtain ⟨PL, hPL⟩ : ∃ PL, placed x.hp = PL := ⟨_, rfl⟩
 rw [hPL] at HPl ⊢
 have HP : Hid (PL = freeA x.zs ++ (pageA x.ls ++ x.live)) := HPl
 clear HPl hPL
 have hz' : Hid _ := hz
 have hl' : Hid _ := hl
 have hv' : Hid _ := hv
 have hb1 := below_box w (.cells #[.slice x.zo x.zn x.zc, .slice x.mo x.mn x.mc, .int .i64 x.cpus, .slice x.lo x.ln x.lc, .slice x.vo x.vn x.vc] 34)
 have A1 := hbox_new w (.slice x.zo x.zn x.zc) (.slice x.mo x.mn x.mc) (.int .i64 x.cpus) (.slice x.lo x.ln x.lc) (.slice x.vo x.vn x.vc) 34
 have hs1 : (w.alloc (.cells #[.slice x.zo x.zn x.zc, .slice x.mo x.mn x.mc, .int .i64 x.cpus, .slice x.lo x.ln x.lc, .slice x.vo x.vn x.vc] 34)).heap.size = w.heap.size + 1 := by simp
 have hzm := zero_pmarks
 obtain ⟨Z, hZ⟩ : ∃ Z, mk (fun _ => false) = Z := ⟨_, rfl⟩
 rw [hZ] at hzm
 obtain ⟨W0, hW0⟩ : ∃ W0, (w.alloc (.cells #[.slice x.zo x.zn x.zc, .slice x.mo x.mn x.mc, .int .i64 x.cpus, .slice x.lo x.ln x.lc, .slice x.vo x.vn x.vc] 34)).alloc (.cells Z 101) = W0 := ⟨_, rfl⟩
 have hb2 : Below w.heap.size w W0 := by rw [← hW0]; exact hb1.trans ((below_box _ _).mono hb1.size)
 have I0 : ApI w W0 x [] W0 := by
  refine ⟨hb2, But.refl _ _, ?_, by rw [← hW0]; exact A1.below (below_box _ _)⟩
  show W0.heap[w.heap.size + 1]? = some (Obj.cells (mk (cov [])) _ _)
  have e : mk (cov []) = Z := by rw [← hZ]; exact mk_ext fun p _ => rfl
  rw [e, ← hW0]
  have := heap_alloc_new (w.alloc (.cells #[.slice x.zo x.zn x.zc, .slice x.mo x.mn x.mc, .int .i64 x.cpus, .slice x.lo x.ln x.lc, .slice x.vo x.vn x.vc] 34)) (.cells Z 101)
  rw [hs1] at this
  exact this
 have HW0 : Hid _ := hW0
 have a0 := A1.c0
 have i0 := I0.box.c0
 obtain ⟨zo, hzo⟩ : ∃ zo, x.zo = zo := ⟨_, rfl⟩
 obtain ⟨lo, hlo⟩ : ∃ lo, x.lo = lo := ⟨_, rfl⟩
 have hZs := hx.zones
 have hLs := hx.lists
 rw [hzo] at hZs i0
 rw [hlo] at hLs
 have HZO : Hid (x.zo = zo) := hzo
 have HLO : Hid (x.lo = lo) := hlo
 have rz := hZs.reach
 have rl := hLs.reach
 have HNo : Hid (∀ e, (e = Ending.returned (.bool false)) → ¬ Apt [] PL → RetIff e (Apt [] PL)) := fun e he hn => ⟨false, he, by simp [hn]⟩
 clear hz hl hv hb1 A1 hs1 hW0 a0
 rw [hzo, hlo]
 rw [hzo, hlo] at HW0
 clear hzo hlo
 go_enter Tryz.func36, Tryz.ntmps36
 go_wp2_with (rw [HW0.out])
 clear HW0 hzm hZ i0
 go_loopw [13] (fun iv wr => ∃ k : Nat, k ≤ x.zn ∧ iv = .int .i64 k ∧ Hid (Apt [] (freeA (x.zs.take k))) ∧ ApI w W0 x (freeA (x.zs.take k)) wr) (fun iv _ => x.zn - (intOf iv).toNat)
 case atStart => exact ⟨0, Nat.zero_le _, rfl, (by show Apt [] _; exact apt_nil []), I0⟩
 case round =>
  obtain ⟨k, hk, rfl, hA, I⟩ := hrel
  clear I0
  by_cases hlt : k < x.zn
  ·obtain ⟨g, off, z, fo, fn, fc, to_, tn, tc, ha, c0, c1, c2, c3, hat, hX⟩ := (hZs.below I.b).at k hlt
   subst ha
   have hbb := below_box wr (.cells #[.int .i64 z.f, .int .i64 z.t, .slice fo fn fc, .slice to_ tn tc] 54)
   have ZB := zbox_new wr (.int .i64 z.f) (.int .i64 z.t) (.slice fo fn fc) (.slice to_ tn tc) 54
   have hatw : Blks w fo fn z.free := by
    have := hZs.at_ _ (getD_mem (d := Zc.zero) (show k < x.zs.length by have := hZs.len; omega))
    rw [hX.out] at this
    exact ZnAt.free this
   have Ib := I.below hbb
   have HAd := pAddBlocks_any _ (w.heap.size + 1) (freeA (x.zs.take k)) z.free fo fn fc Ib.m (hatw.below Ib.b) (fun i hi => by
       have := hz'.out _ (getD_mem (d := Zc.zero) (show k < x.zs.length by have := hZs.len; omega)) i (by rw [hX.out]; exact hi)
       rw [hX.out] at this
       exact this) (fun hn a ha => by have := Blks.lt hatw hn a ha; omega)
   obtain ⟨Wb, hWb⟩ : ∃ Wb, wr.alloc (.cells #[.int .i64 z.f, .int .i64 z.t, .slice fo fn fc, .slice to_ tn tc] 54) = Wb := ⟨_, rfl⟩
   rw [hWb] at hbb ZB Ib HAd
   have HWb : Hid _ := hWb
   have y2 := ZB.c2
   clear hWb
   go_wp2_with (rw [HWb.out])
   go_at_call 58
   refine HAd.mono ?_
   rintro e W2 ⟨hAd, hb2'⟩
   have e1 : freeA (x.zs.take (k + 1)) = freeA (x.zs.take k) ++ z.free := by
    unfold freeA
    rw [flatMap_take x.zs _ k (by have := hZs.len; omega) .zero, hX.out]
   rcases hAd with ⟨rfl, hA2, hM2⟩ | ⟨rfl, hA2⟩
   ·have I2 := Ib.step hb2' hM2
    rw [← e1] at I2
    have HA2 : Hid (Apt [] (freeA (x.zs.take (k + 1)))) := by show Apt [] _; rw [e1, apt_append]; exact ⟨hA.out, hA2⟩
    clear HAd hA hA2 hM2 I Ib hbb ZB c0 c1 c2 c3 hat y2 HWb e1
    go_wp2
    go_roundw
    case rel => exact ⟨k + 1, by omega, by go_num, HA2, I2⟩
    case measure => simp [intOf]; omega
   have HF : Hid (¬ Apt [] PL) := fun h => by
    apply hA2
    rw [HP.out] at h
    have e2 : freeA x.zs = freeA (x.zs.take k) ++ (z.free ++ freeA (x.zs.drop (k + 1))) := by
     rw [← List.append_assoc, ← e1]
     exact flatMap_split _ _ _
    rw [e2, List.append_assoc, List.append_assoc] at h
    exact apt_mid h
   have hBB := Ib.b.trans (hb2'.below (by omega) Ib.b.size)
   clear HAd hA hA2 I Ib hbb ZB c0 c1 c2 c3 hat y2 HWb e1
   go_wp2
   go_ret
   exact ⟨HNo.out _ rfl HF.out, hBB⟩
  have e0 : x.zs.take k = x.zs := List.take_of_length_le (by have := hZs.len; omega)
  rw [e0] at hA I
  have a3 := I.box.c3
  rw [HLO.out] at a3
  go_wp2_with fail
  clear a3 hlt hk e0
  go_loopw [25] (fun iv wr => ∃ k : Nat, k ≤ x.ln ∧ iv = .int .i64 k ∧ Hid (Apt [] (freeA x.zs ++ pageA (x.ls.take k))) ∧ ApI w W0 x (freeA x.zs ++ pageA (x.ls.take k)) wr) (fun iv _ => x.ln - (intOf iv).toNat)
  case atStart => exact ⟨0, Nat.zero_le _, rfl, (by show Apt [] _; simpa [pageA] using hA.out), by simpa [pageA] using I⟩
  case round =>
   clear hA I
   obtain ⟨k, hk, rfl, hA, I⟩ := hrel
   by_cases hlt : k < x.ln
   ·obtain ⟨g, off, c, z, t, pages, po, pn, pc, ha, c0, c1, c2, c3, hat, hX⟩ := (hLs.below I.b).at k hlt
    subst ha
    have hbb := below_box wr (.cells #[.int .i64 c, .int .i64 z, .int .i64 t, .slice po pn pc] 69)
    have ZB := zbox_new wr (.int .i64 c) (.int .i64 z) (.int .i64 t) (.slice po pn pc) 69
    have hatw : Nums w po pn pages := by
     have := hLs.at_ _ (getD_mem (d := Lc.zero) (show k < x.ls.length by have := hLs.len; omega))
     rw [hX.out] at this
     exact this
    have hpg : Hid (∀ i, i < pages.length → 0 ≤ pages.getD i 0 ∧ pages.getD i 0 < 256) := fun i hi => by
     have := hl'.out _ (getD_mem (d := Lc.zero) (show k < x.ls.length by have := hLs.len; omega)) i (by rw [hX.out]; exact hi)
     rw [hX.out] at this
     exact this
    have e1 : pageA (x.ls.take (k + 1)) = pageA (x.ls.take k) ++ pages.map pgB := by
     unfold pageA
     rw [flatMap_take x.ls _ k (by have := hLs.len; omega) .zero, hX.out]
    have Ib := I.below hbb
    obtain ⟨Wb, hWb⟩ : ∃ Wb, wr.alloc (.cells #[.int .i64 c, .int .i64 z, .int .i64 t, .slice po pn pc] 69) = Wb := ⟨_, rfl⟩
    rw [hWb] at hbb ZB Ib
    have HWb : Hid _ := hWb
    have y3 := ZB.c3
    have rp := hatw.reach
    have HE1 : Hid _ := e1
    clear hWb e1
    go_wp2_with (rw [HWb.out])
    clear HWb c0 c1 c2 c3 y3 ZB hbb hat I
    go_loopw [32] (fun iv wr => ∃ j : Nat, j ≤ pn ∧ iv = .int .i64 j ∧ Hid (Apt [] (freeA x.zs ++ pageA (x.ls.take k) ++ (pages.take j).map pgB)) ∧ ApI w W0 x (freeA x.zs ++ pageA (x.ls.take k) ++ (pages.take j).map pgB) wr) (fun iv _ => pn - (intOf iv).toNat)
    case atStart => exact ⟨0, Nat.zero_le _, rfl, (by show Apt [] _; simpa using hA.out), by simpa using Ib⟩
    case round =>
     clear hA Ib
     obtain ⟨j, hj, rfl, hA, I⟩ := hrel
     by_cases hjl : j < pn
     ·obtain ⟨g2, off2, p, ha2, c0, hP⟩ := (hatw.below I.b).at_.at j (by have := hatw.len; omega)
      subst ha2
      have hpp := hpg.out j (by have := hatw.len; omega)
      rw [hP.out] at hpp
      obtain ⟨A, hAA⟩ : ∃ A : Nat, p = A := ⟨p.toNat, by omega⟩
      have HAd := pAdd_any wr (w.heap.size + 1) _ A 1 I.m (by omega)
      rw [hAA] at c0
      have HAA : Hid (p = A) := hAA
      clear hAA hpp
      go_wp2_with fail
      go_at_call 59
      refine HAd.mono ?_
      rintro e W2 ⟨hAd, hb2'⟩
      have e2 : (pages.take (j + 1)).map pgB = (pages.take j).map pgB ++ [pgB p] := by rw [map_take_succ pages j (by have := hatw.len; omega), hP.out]
      rcases hAd with ⟨rfl, hfree, hM2⟩ | ⟨rfl, q, q1, q2, q3⟩
      ·have hM3 := marks_cov (c := pgB p) HAA.out.symm (by show ((1 : Nat) : Int) = pw 0; rfl) hM2
       have I2 := I.step hb2' hM3
       rw [List.append_assoc, ← e2] at I2
       have HA2 : Hid (Apt [] (freeA x.zs ++ pageA (x.ls.take k) ++ (pages.take (j + 1)).map pgB)) := by
        show Apt [] _
        rw [e2, ← List.append_assoc, apt_append, apt_one]
        refine ⟨hA.out, ?_⟩
        rw [List.nil_append, ← cov_ovl]
        rintro ⟨q, q1, q2, q3⟩
        have e3 : pw (pgB p).o = 1 := rfl
        have e4 : (pgB p).a = p := rfl
        rw [e3, e4] at q2
        rw [e4] at q1
        rw [HAA.out] at q1 q2
        rw [hfree q q1 (by omega)] at q3
        cases q3
       clear HAd hA hfree hM2 hM3 I c0 e2
       go_wp2
       go_roundw
       case rel => exact ⟨j + 1, by omega, by go_num, HA2, I2⟩
       case measure => simp [intOf]; omega
      have HF : Hid (¬ Apt [] PL) := fun h => by
       have e5 : pages.map pgB = (pages.take j).map pgB ++ ([pgB p] ++ (pages.drop (j + 1)).map pgB) := by
        rw [← List.append_assoc, ← e2, ← List.map_append, List.take_append_drop]
       have e6 : pageA x.ls = pageA (x.ls.take k) ++ (pages.map pgB ++ pageA (x.ls.drop (k + 1))) := by
        rw [← List.append_assoc, ← HE1.out]
        exact flatMap_split _ _ _
       rw [HP.out, e6, e5] at h
       have e7 : freeA x.zs ++ (pageA (x.ls.take k) ++ ((pages.take j).map pgB ++ ([pgB p] ++ (pages.drop (j + 1)).map pgB) ++ pageA (x.ls.drop (k + 1))) ++ x.live) = (freeA x.zs ++ pageA (x.ls.take k) ++ (pages.take j).map pgB) ++ ([pgB p] ++ ((pages.drop (j + 1)).map pgB ++ pageA (x.ls.drop (k + 1)) ++ x.live)) := by simp [List.append_assoc]
       rw [e7] at h
       have h1 := apt_mid h
       rw [apt_one, ← cov_ovl] at h1
       apply h1
       have e3 : pw (pgB p).o = 1 := rfl
       have e4 : (pgB p).a = p := rfl
       rw [e3, e4, HAA.out]
       exact ⟨q, q1, by omega, q3⟩
      have hBB := I.b.trans (hb2'.below (by omega) I.b.size)
      clear HAd hA I c0 e2 q3
      go_wp2
      go_ret
      exact ⟨HNo.out _ rfl HF.out, hBB⟩
     have e0 : pages.take j = pages := List.take_of_length_le (by have := hatw.len; omega)
     rw [e0, List.append_assoc, ← HE1.out] at hA I
     clear e0
     go_wp2
     go_roundw
     case rel => exact ⟨k + 1, by omega, by go_num, hA, I⟩
     case measure => simp [intOf]; omega
   have e0 : x.ls.take k = x.ls := List.take_of_length_le (by have := hLs.len; omega)
   rw [e0] at hA I
   have a4 := I.box.c4
   have HAd := pAddBlocks_any _ (w.heap.size + 1) (freeA x.zs ++ pageA x.ls) x.live x.vo x.vn x.vc I.m (hx.live.below I.b) hv'.out (fun hn a ha => by have := Blks.lt hx.live hn a ha; omega)
   go_wp2_with fail
   go_at_call 58
   refine HAd.mono ?_
   rintro e W2 ⟨hAd, hb2'⟩
   have hBB := I.b.trans (hb2'.below (by omega) I.b.size)
   have HI : Hid (Apt [] PL ↔ Apt (freeA x.zs ++ pageA x.ls) x.live) := by
    show _ ↔ _
    rw [HP.out, ← List.append_assoc, apt_append]
    simp only [List.nil_append]
    exact ⟨fun h => h.2, fun h => ⟨hA.out, h⟩⟩
   rcases hAd with ⟨rfl, hA2, hM2⟩ | ⟨rfl, hA2⟩
   ·have HY := HI.out.2 hA2
    have HY' : Hid _ := HY
    clear HAd hA hA2 hM2 I a4 HY HI e0
    go_wp2
    go_ret
    exact ⟨⟨true, rfl, fun _ => HY'.out, fun _ => rfl⟩, hBB⟩
   have HF : Hid (¬ Apt [] PL) := fun h => hA2 (HI.out.1 h)
   clear HAd hA hA2 I a4 HI e0
   go_wp2
   go_ret
   exact ⟨HNo.out _ rfl HF.out, hBB⟩
def ownC (a b : Ls) : Int := orL [cmpI a.c b.c, cmpI a.z b.z, cmpI a.t b.t]
theorem cmpI_cases (a b : Int) : (a < b ∧ cmpI a b = -1) ∨ (b < a ∧ cmpI a b = 1) ∨ (a = b ∧ cmpI a b = 0) := by
 rcases (show a < b ∨ b < a ∨ a = b by omega) with h | h | h
 ·exact .inl ⟨h, by unfold cmpI; rw [if_pos h]⟩
 ·exact .inr (.inl ⟨h, by unfold cmpI; rw [if_neg (by omega), if_pos h]⟩)
 exact .inr (.inr ⟨h, by unfold cmpI; rw [if_neg (by omega), if_neg (by omega)]⟩)
theorem ownC_neg (a b : Ls) : ownC a b < 0 ↔ aheadL a b := by
 unfold ownC aheadL orL orL orL orL
 rcases cmpI_cases a.c b.c with ⟨h, e⟩ | ⟨h, e⟩ | ⟨h, e⟩ <;> rcases cmpI_cases a.z b.z with ⟨h1, e1⟩ | ⟨h1, e1⟩ | ⟨h1, e1⟩ <;> rcases cmpI_cases a.t b.t with ⟨h2, e2⟩ | ⟨h2, e2⟩ | ⟨h2, e2⟩ <;> rw [e, e1, e2] <;> simp <;> omega
theorem ownC_zero (a b : Ls) : ownC a b = 0 ↔ a.c = b.c ∧ a.z = b.z ∧ a.t = b.t := by
 unfold ownC orL orL orL orL
 rcases cmpI_cases a.c b.c with ⟨h, e⟩ | ⟨h, e⟩ | ⟨h, e⟩ <;> rcases cmpI_cases a.z b.z with ⟨h1, e1⟩ | ⟨h1, e1⟩ | ⟨h1, e1⟩ <;> rcases cmpI_cases a.t b.t with ⟨h2, e2⟩ | ⟨h2, e2⟩ | ⟨h2, e2⟩ <;> rw [e, e1, e2] <;> simp <;> omega
theorem ownC_range (a b : Ls) : -1 ≤ ownC a b ∧ ownC a b ≤ 1 := by
 unfold ownC orL orL orL orL
 rcases cmpI_cases a.c b.c with ⟨h, e⟩ | ⟨h, e⟩ | ⟨h, e⟩ <;> rcases cmpI_cases a.z b.z with ⟨h1, e1⟩ | ⟨h1, e1⟩ | ⟨h1, e1⟩ <;> rcases cmpI_cases a.t b.t with ⟨h2, e2⟩ | ⟨h2, e2⟩ | ⟨h2, e2⟩ <;> rw [e, e1, e2] <;> simp
theorem pByOwner_any (w : World) (a b : Ls) (po po' : Value) :
    Calls Tryz.prog 56 #[.agg #[.int .i64 a.c, .int .i64 a.z, .int .i64 a.t, po], .agg #[.int .i64 b.c, .int .i64 b.z, .int .i64 b.t, po']] w fun e w' => e = .returned (.int .i64 (ownC a b)) ∧ Below w.heap.size w w' := by
 have hb1 := below_box w (.cells #[.int .i64 a.c, .int .i64 a.z, .int .i64 a.t, po] 69)
 have A1 := zbox_new w (.int .i64 a.c) (.int .i64 a.z) (.int .i64 a.t) po 69
 have hb2 := below_box (w.alloc (.cells #[.int .i64 a.c, .int .i64 a.z, .int .i64 a.t, po] 69)) (.cells #[.int .i64 b.c, .int .i64 b.z, .int .i64 b.t, po'] 69)
 have A2 := zbox_new (w.alloc (.cells #[.int .i64 a.c, .int .i64 a.z, .int .i64 a.t, po] 69)) (.int .i64 b.c) (.int .i64 b.z) (.int .i64 b.t) po' 69
 replace A1 := A1.below hb2
 have hb0 := hb1.trans (hb2.mono hb1.size)
 have hs0 : (w.alloc (.cells #[.int .i64 a.c, .int .i64 a.z, .int .i64 a.t, po] 69)).heap.size = w.heap.size + 1 := by simp
 rw [hs0] at A2
 clear hb1 hb2 hs0
 obtain ⟨W0, hW0⟩ : ∃ W0, (w.alloc (.cells #[.int .i64 a.c, .int .i64 a.z, .int .i64 a.t, po] 69)).alloc (.cells #[.int .i64 b.c, .int .i64 b.z, .int .i64 b.t, po'] 69) = W0 := ⟨_, rfl⟩
 rw [hW0] at A1 A2 hb0
 have HW0 : Hid _ := hW0
 clear hW0
 obtain ⟨x0, h0⟩ : ∃ x, cmpI a.c b.c = x := ⟨_, rfl⟩
 obtain ⟨x1, h1⟩ : ∃ x, cmpI a.z b.z = x := ⟨_, rfl⟩
 obtain ⟨x2, h2⟩ : ∃ x, cmpI a.t b.t = x := ⟨_, rfl⟩
 have HO : Hid (ownC a b = orL [x0, x1, x2]) := by show _ = _; unfold ownC; rw [h0, h1, h2]
 have C0 := fun W => cmpCompare_any W a.c b.c
 have C1 := fun W => cmpCompare_any W a.z b.z
 have C2 := fun W => cmpCompare_any W a.t b.t
 rw [h0] at C0
 rw [h1] at C1
 rw [h2] at C2
 clear h0 h1 h2
 have S1 : Below W0.heap.size W0 { W0 with drawn := W0.drawn + 1 } := (Below.refl W0.heap.size W0).drew
 have m0 : ∀ wx, Below W0.heap.size W0 wx → wx.cell? ⟨w.heap.size, 0, none⟩ = some (.int .i64 a.c) := fun wx h => keep A1.c0 h
 have m1 : ∀ wx, Below W0.heap.size W0 wx → wx.cell? ⟨w.heap.size, 1, none⟩ = some (.int .i64 a.z) := fun wx h => keep A1.c1 h
 have m2 : ∀ wx, Below W0.heap.size W0 wx → wx.cell? ⟨w.heap.size, 2, none⟩ = some (.int .i64 a.t) := fun wx h => keep A1.c2 h
 have n0 : ∀ wx, Below W0.heap.size W0 wx → wx.cell? ⟨w.heap.size + 1, 0, none⟩ = some (.int .i64 b.c) := fun wx h => keep A2.c0 h
 have n1 : ∀ wx, Below W0.heap.size W0 wx → wx.cell? ⟨w.heap.size + 1, 1, none⟩ = some (.int .i64 b.z) := fun wx h => keep A2.c1 h
 have n2 : ∀ wx, Below W0.heap.size W0 wx → wx.cell? ⟨w.heap.size + 1, 2, none⟩ = some (.int .i64 b.t) := fun wx h => keep A2.c2 h
 go_enter Tryz.func56, Tryz.ntmps56
 go_wp2_with (rw [HW0.out])
 clear HW0
 refine wp_region_peel (S := fun wx => Below W0.heap.size W0 wx) 17 _ (by kernel_rfl) (by kernel_rfl) rfl ?_
 simp only [List.take_succ_cons, List.take_zero]
 refine tkH 0 (.pointer (some ⟨w.heap.size, 0, none⟩)) S1 (h:=?_)
 refine tkH 1 (.int .i64 a.c) S1 (h:=?_)
 refine tkH 2 (.pointer (some ⟨w.heap.size + 1, 0, none⟩)) S1 (h:=?_)
 refine tkH 3 (.int .i64 b.c) S1 (h:=?_)
 refine tkH 5 (.pointer (some ⟨w.heap.size, 1, none⟩)) S1 (h:=?_)
 refine tkH 6 (.int .i64 a.z) S1 (h:=?_)
 refine tkH 7 (.pointer (some ⟨w.heap.size + 1, 1, none⟩)) S1 (h:=?_)
 refine tkH 8 (.int .i64 b.z) S1 (h:=?_)
 refine tkH 10 (.pointer (some ⟨w.heap.size, 2, none⟩)) S1 (h:=?_)
 refine tkH 11 (.int .i64 a.t) S1 (h:=?_)
 refine tkH 12 (.pointer (some ⟨w.heap.size + 1, 2, none⟩)) S1 (h:=?_)
 refine tkH 13 (.int .i64 b.t) S1 (h:=?_)
 refine oneH 4 (by kernel_rfl) rfl rfl (fun K4 hK4 => ?_)
 go_simp
 refine (C0 _).mono ?_
 rintro e wq ⟨rfl, rfl⟩
 refine hK4 _ _ S1 ?_
 try simp only [Act.put, List.setIfInBounds_toArray, List.set_cons_zero, List.set_cons_succ]
 refine oneH 9 (by kernel_rfl) rfl rfl (fun K9 hK9 => ?_)
 go_simp
 refine (C1 _).mono ?_
 rintro e wq ⟨rfl, rfl⟩
 refine hK9 _ _ S1 ?_
 try simp only [Act.put, List.setIfInBounds_toArray, List.set_cons_zero, List.set_cons_succ]
 refine oneH 14 (by kernel_rfl) rfl rfl (fun K14 hK14 => ?_)
 go_simp
 refine (C2 _).mono ?_
 rintro e wq ⟨rfl, rfl⟩
 refine hK14 _ _ S1 ?_
 try simp only [Act.put, List.setIfInBounds_toArray, List.set_cons_zero, List.set_cons_succ]
 refine oneH 15 (by kernel_rfl) rfl rfl (fun K5 hK5 => ?_)
 go_simp
 have SA : Below W0.heap.size W0 (W0.alloc (.cells #[.int .i64 x0, .int .i64 x1, .int .i64 x2] 3)).drew := ((Below.refl _ _).alloc (Nat.le_refl _) _).drew
 have hN : Nums (W0.alloc (.cells #[.int .i64 x0, .int .i64 x1, .int .i64 x2] 3)).drew (some ⟨W0.heap.size, 0, none⟩) 3 [x0, x1, x2] := by
  refine ⟨rfl, by omega, fun i hi => ⟨W0.heap.size, 0, rfl, ?_⟩⟩
  have hc := cell_three_new W0 (.int .i64 x0) (.int .i64 x1) (.int .i64 x2) 3
  have hi' : i < 3 := by simpa using hi
  have h2 : (W0.alloc (.cells #[.int .i64 x0, .int .i64 x1, .int .i64 x2] 3)).drew.cell? ⟨W0.heap.size, i, none⟩ = (W0.alloc (.cells #[.int .i64 x0, .int .i64 x1, .int .i64 x2] 3)).cell? ⟨W0.heap.size, i, none⟩ := rfl
  rw [Nat.zero_add, h2]
  rcases (show i = 0 ∨ i = 1 ∨ i = 2 by omega) with rfl | rfl | rfl
  ·exact hc 0 _ rfl
  ·exact hc 1 _ rfl
  exact hc 2 _ rfl
 refine hK5 _ _ SA ?_
 try simp only [Act.put, List.setIfInBounds_toArray, List.set_cons_zero, List.set_cons_succ]
 have HC := cmpOr_any _ (some ⟨W0.heap.size, 0, none⟩) 3 3 [x0, x1, x2] hN
 obtain ⟨V, hV⟩ : ∃ V, (W0.alloc (.cells #[.int .i64 x0, .int .i64 x1, .int .i64 x2] 3)).drew = V := ⟨_, rfl⟩
 rw [hV] at SA HC ⊢
 obtain ⟨R, hR⟩ : ∃ R, orL [x0, x1, x2] = R := ⟨_, rfl⟩
 rw [hR] at HC
 have HR : Hid _ := hR
 clear hV hN hR
 refine oneH 16 (by kernel_rfl) rfl rfl (fun K6 hK6 => ?_)
 go_simp
 refine HC.mono ?_
 rintro e wq ⟨rfl, rfl⟩
 refine hK6 _ _ SA ?_
 try simp only [Act.put, List.setIfInBounds_toArray, List.set_cons_zero, List.set_cons_succ]
 refine wpAnyH_done (by kernel_rfl) ?_ _
 show Oper.wp _ _ _ _ _ _
 have hB := hb0.trans (SA.mono hb0.size)
 clear hK4 hK9 hK14 hK5 hK6 m0 m1 m2 n0 n1 n2 A1 A2 C0 C1 C2 HC S1
 go_wp2
 go_ret
 exact ⟨by rw [HO.out, HR.out]; rfl, hB⟩
def HoldsI (F : Nat) (caps : Array Value) (l : List Int) (g : Int → Bool) (w : World) : Prop :=
 ∀ (i : Nat), i < l.length → ∀ W : World, Below w.heap.size w W → Calls Tryz.prog F (#[Value.int .i64 (l.getD i 0)] ++ caps) W fun e W' => e = .returned (.bool (g (l.getD i 0))) ∧ Below W.heap.size W W'
def FoundI (e : Ending) (l : List Int) (g : Int → Bool) : Prop :=
 (∃ k : Nat, k < l.length ∧ e = .returned (.int .i64 (k : Int)) ∧ g (l.getD k 0) = true ∧ ∀ j, j < k → g (l.getD j 0) = false) ∨ (e = .returned (.int .i64 (-1)) ∧ ∀ j, j < l.length → g (l.getD j 0) = false)
theorem iIndex_any (w : World) (F : Nat) (caps : Array Value) (ao : Option Addr) (n cap : Nat) (l : List Int) (g : Int → Bool) (h : Nums w ao n l)
    (hcall : ∀ args W, (callFunc F args).run Tryz.prog W = .ok (.enter F args) W) (hc : HoldsI F caps l g w) :
    Calls Tryz.prog 99 #[.slice ao n cap, .func (.func F) #[] caps] w fun e w' => FoundI e l g ∧ Below w.heap.size w w' := by
 have hlen := h.len
 have hrch := h.reach
 go_enter Tryz.func99, Tryz.ntmps99
 go_wp2
 go_loopw [8] (fun i wr => ∃ k : Nat, k ≤ n ∧ i = .int .i64 k ∧ Hid (∀ j, j < k → g (l.getD j 0) = false) ∧ Below w.heap.size w wr) (fun i _ => n - (intOf i).toNat)
 case atStart => exact ⟨0, Nat.zero_le _, rfl, (fun j hj => absurd hj (Nat.not_lt_zero j)), Below.refl _ _⟩
 case round =>
  obtain ⟨k, hk, rfl, hN, hb⟩ := hrel
  by_cases hlt : k < n
  ·obtain ⟨b, o, rfl, c0⟩ := h.at_ k (by omega)
   have hc1 := hc k (by omega) wr hb
   obtain ⟨x, hr⟩ : ∃ x, l.getD k 0 = x := ⟨_, rfl⟩
   have HR : Hid (l.getD k 0 = x) := hr
   rw [hr] at c0 hc1
   clear hr
   have d0 := keep c0 hb
   clear c0
   go_wp2_with fail
   refine hc1.mono ?_
   rintro e w1 ⟨rfl, hb1⟩
   have hB := hb.trans (hb1.mono hb.size)
   clear hc1 d0 hc
   cases hg : g x with
   | true =>
    have HT : Hid (g (l.getD k 0) = true) := by show _ = _; rw [HR.out]; exact hg
    clear hg
    go_wp2
    go_ret
    exact ⟨.inl ⟨k, by omega, rfl, HT.out, hN.out⟩, hB⟩
   | false =>
    have HF : Hid (∀ j, j < k + 1 → g (l.getD j 0) = false) := fun j hj => by
     by_cases e : j = k
     ·rw [e, HR.out]; exact hg
     exact hN.out j (by omega)
    clear hg hN
    go_wp2
    go_roundw
    case rel => exact ⟨k + 1, by omega, by go_num, HF, hB⟩
    case measure => simp [intOf]; omega
  have HF : Hid (∀ j, j < l.length → g (l.getD j 0) = false) := fun j hj => hN.out j (by omega)
  clear hN hc
  go_wp2
  go_ret
  exact ⟨.inr ⟨rfl, HF.out⟩, hb⟩
theorem anyI_of_found {l : List Int} {g : Int → Bool} {k : Nat} (hk : k < l.length) (h : g (l.getD k 0) = true) : l.any g = true := by
 rw [List.any_eq_true]
 exact ⟨l[k], List.getElem_mem _, by rw [List.getD_eq_getElem?_getD, List.getElem?_eq_getElem hk] at h; exact h⟩
theorem anyI_of_none {l : List Int} {g : Int → Bool} (h : ∀ j, j < l.length → g (l.getD j 0) = false) : l.any g = false := by
 rw [List.any_eq_false]
 intro x hx
 obtain ⟨i, hi, rfl⟩ := List.getElem_of_mem hx
 have := h i hi
 rw [List.getD_eq_getElem?_getD, List.getElem?_eq_getElem hi] at this
 simp only [Option.getD_some] at this
 simp [this]
theorem iContains_any (w : World) (F : Nat) (caps : Array Value) (ao : Option Addr) (n cap : Nat) (l : List Int) (g : Int → Bool) (h : Nums w ao n l)
    (hcall : ∀ args W, (callFunc F args).run Tryz.prog W = .ok (.enter F args) W) (hc : HoldsI F caps l g w) :
    Calls Tryz.prog 78 #[.slice ao n cap, .func (.func F) #[] caps] w fun e w' => e = .returned (.bool (l.any g)) ∧ Below w.heap.size w w' := by
 go_enter Tryz.func78, Tryz.ntmps78
 go_wp2_with fail
 go_at_call 99
 refine (iIndex_any w F caps ao n cap l g h hcall hc).mono ?_
 rintro e w1 ⟨hf, hb⟩
 rcases hf with ⟨k, hk, rfl, hg, _⟩ | ⟨rfl, hg⟩
 ·have HF : Hid (l.any g = true) := anyI_of_found hk hg
  clear hg hc
  go_wp2
  go_ret
  exact ⟨ret_bool HF.out.symm, hb⟩
 have HF : Hid (l.any g = false) := anyI_of_none hg
 clear hg hc
 go_wp2
 go_ret
 exact ⟨ret_bool HF.out.symm, hb⟩
theorem listMayF_call (args : Array Value) (W : World) : (callFunc 79 args).run Tryz.prog W = .ok (.enter 79 args) W := by kernel_rfl
theorem listMayF_any (w : World) (hb lb : Nat) (zo : Option Addr) (zn zc : Nat) (zs : List Zc) (k : Nat) (p : Int) (hz : Zons w zo zn zs) (hk : k < zn) (h0 : w.cell? ⟨hb, 0, none⟩ = some (.slice zo zn zc)) (h1 : w.cell? ⟨lb, 1, none⟩ = some (.int .i64 (k : Int))) :
    Calls Tryz.prog 79 #[.int .i64 p, .pointer (some ⟨hb, 0, none⟩), .pointer (some ⟨lb, 0, none⟩)] w fun e w' => e = .returned (.bool (!inB p (zs.getD k .zero).z.f ((zs.getD k .zero).z.t - 1))) ∧ Below w.heap.size w w' := by
 obtain ⟨g, off, z, fo, fn, fc, to_, tn, tc, rfl, c0, c1, c2, c3, _, hX⟩ := hz.at k hk
 rw [hX.out]
 have HP := pIsPage_any w z.f z.t p (.slice fo fn fc) (.slice to_ tn tc)
 have hr := hz.reach
 dsimp only
 obtain ⟨r, hrr⟩ : ∃ r, inB p z.f (z.t - 1) = r := ⟨_, rfl⟩
 rw [hrr] at HP ⊢
 clear hrr hX hz
 go_enter Tryz.func79, Tryz.ntmps79
 go_wp2_with fail
 go_at_call 80
 refine HP.mono ?_
 rintro e w1 ⟨rfl, hb1⟩
 clear HP c0 c1 c2 c3 h0 h1
 go_wp2
 go_ret
 exact ⟨rfl, hb1⟩
structure LsOkX (x : Hx) (l : Ls) : Prop where
 c : 0 ≤ l.c ∧ l.c ≤ x.cpus - 1
 z : 0 ≤ l.z ∧ l.z < x.zn
 t : 0 ≤ l.t ∧ l.t ≤ 2
 n : 1 ≤ l.pages.length ∧ l.pages.length ≤ 8
 p : ∀ i, i < l.pages.length → (x.zs.getD l.z.toNat .zero).z.f ≤ l.pages.getD i 0 ∧ l.pages.getD i 0 < (x.zs.getD l.z.toNat .zero).z.t
theorem pListMay_any (w : World) (x : Hx) (l : Ls) (po : Option Addr) (pn pc : Nat) (hx : x.At w) (hp : Nums w po pn l.pages) :
    Calls Tryz.prog 55 #[.agg #[.slice x.zo x.zn x.zc, .slice x.mo x.mn x.mc, .int .i64 x.cpus, .slice x.lo x.ln x.lc, .slice x.vo x.vn x.vc], .agg #[.int .i64 l.c, .int .i64 l.z, .int .i64 l.t, .slice po pn pc]] w fun e w' => RetIff e (LsOkX x l) ∧ Below w.heap.size w w' := by
 have hb1 := below_box w (.cells #[.slice x.zo x.zn x.zc, .slice x.mo x.mn x.mc, .int .i64 x.cpus, .slice x.lo x.ln x.lc, .slice x.vo x.vn x.vc] 34)
 have A1 := hbox_new w (.slice x.zo x.zn x.zc) (.slice x.mo x.mn x.mc) (.int .i64 x.cpus) (.slice x.lo x.ln x.lc) (.slice x.vo x.vn x.vc) 34
 have hb2 := below_box (w.alloc (.cells #[.slice x.zo x.zn x.zc, .slice x.mo x.mn x.mc, .int .i64 x.cpus, .slice x.lo x.ln x.lc, .slice x.vo x.vn x.vc] 34)) (.cells #[.int .i64 l.c, .int .i64 l.z, .int .i64 l.t, .slice po pn pc] 69)
 have A2 := zbox_new (w.alloc (.cells #[.slice x.zo x.zn x.zc, .slice x.mo x.mn x.mc, .int .i64 x.cpus, .slice x.lo x.ln x.lc, .slice x.vo x.vn x.vc] 34)) (.int .i64 l.c) (.int .i64 l.z) (.int .i64 l.t) (.slice po pn pc) 69
 replace A1 := A1.below hb2
 have hb0 := hb1.trans (hb2.mono hb1.size)
 have hs0 : (w.alloc (.cells #[.slice x.zo x.zn x.zc, .slice x.mo x.mn x.mc, .int .i64 x.cpus, .slice x.lo x.ln x.lc, .slice x.vo x.vn x.vc] 34)).heap.size = w.heap.size + 1 := by simp
 rw [hs0] at A2
 clear hb1 hb2 hs0
 obtain ⟨W0, hW0⟩ : ∃ W0, (w.alloc (.cells #[.slice x.zo x.zn x.zc, .slice x.mo x.mn x.mc, .int .i64 x.cpus, .slice x.lo x.ln x.lc, .slice x.vo x.vn x.vc] 34)).alloc (.cells #[.int .i64 l.c, .int .i64 l.z, .int .i64 l.t, .slice po pn pc] 69) = W0 := ⟨_, rfl⟩
 rw [hW0] at A1 A2 hb0
 have HW0 : Hid _ := hW0
 clear hW0
 have hz := hx.zones.below hb0
 replace hp := hp.below hb0
 have hlen := hp.len
 have rz := hz.reach
 have rp := hp.reach
 have HC := pIsCpu_any W0 (.slice x.zo x.zn x.zc) (.slice x.mo x.mn x.mc) (.slice x.lo x.ln x.lc) (.slice x.vo x.vn x.vc) x.cpus l.c
 have HT := fun W => pIsType_any W l.t
 have a0 := A1.c0
 have a1 := A1.c1
 have a2 := A1.c2
 have a3 := A1.c3
 have a4 := A1.c4
 have b0 := A2.c0
 go_enter Tryz.func55, Tryz.ntmps55
 go_wp2_with (rw [HW0.out])
 go_at_call 38
 refine HC.mono ?_
 rintro e W1 ⟨rfl, hb1⟩
 clear HC HW0 a0 a1 a2 a3 a4 b0
 replace A1 := A1.below hb1
 replace A2 := A2.below hb1
 replace hz := hz.below hb1
 replace hp := hp.below hb1
 have hB1 := hb0.trans (hb1.mono hb0.size)
 have a0 := A1.c0
 have b0 := A2.c0
 have b1 := A2.c1
 have b2 := A2.c2
 have b3 := A2.c3
 have HN : ∀ e, (e = Ending.returned (.bool false)) → ¬ LsOkX x l → RetIff e (LsOkX x l) := fun e he hn => ⟨false, he, by simp [hn]⟩
 have HN' : Hid _ := HN
 clear HN
 by_cases h1 : 0 ≤ l.c ∧ l.c ≤ x.cpus - 1
 ·rw [inB_t h1]
  by_cases h2 : 0 ≤ l.z
  ·by_cases h3 : l.z < x.zn
   ·go_wp2_with fail
    go_at_call 57
    refine (HT _).mono ?_
    rintro e W2 ⟨rfl, rfl⟩
    by_cases h4 : 0 ≤ l.t ∧ l.t ≤ 2
    ·rw [inB_t h4]
     by_cases h5 : (pn : Int) < 1
     ·have hn : Hid (¬ LsOkX x l) := fun h => by have := h.n; omega
      go_wp2
      go_ret
      exact ⟨HN'.out _ rfl hn.out, hB1⟩
     by_cases h6 : (8 : Int) < pn
     ·have hn : Hid (¬ LsOkX x l) := fun h => by have := h.n; omega
      go_wp2
      go_ret
      exact ⟨HN'.out _ rfl hn.out, hB1⟩
     obtain ⟨k, hk⟩ : ∃ k : Nat, l.z = k := ⟨l.z.toNat, by omega⟩
     have hkn : k < x.zn := by omega
     have b1' := b1
     rw [hk] at b1'
     have HI := iContains_any W1 79 #[.pointer (some ⟨w.heap.size, 0, none⟩), .pointer (some ⟨w.heap.size + 1, 0, none⟩)] po pn pc l.pages (fun p => !inB p (x.zs.getD k .zero).z.f ((x.zs.getD k .zero).z.t - 1)) hp listMayF_call (fun i hi W hW => listMayF_any W w.heap.size (w.heap.size + 1) x.zo x.zn x.zc x.zs k _ (hz.below hW) hkn (keep a0 hW) (keep b1' hW))
     have HK : Hid (l.z = k) := hk
     clear hk b1'
     go_wp2_with fail
     go_at_call 78
     refine HI.mono ?_
     rintro e W2 ⟨rfl, hb2⟩
     have hB2 := hB1.trans (hb2.mono hB1.size)
     have hfin : Hid (((!(l.pages.any fun p => !inB p (x.zs.getD k .zero).z.f ((x.zs.getD k .zero).z.t - 1))) = true) ↔ LsOkX x l) := by
      show _ ↔ _
      rw [Bool.not_eq_true', List.any_eq_false]
      constructor
      ·intro h
       refine ⟨h1, by rw [HK.out]; omega, h4, by omega, fun i hi => ?_⟩
       have := h (l.pages.getD i 0) (getD_mem hi)
       simp only [Bool.not_eq_true, Bool.not_eq_false'] at this
       have := of_decide_eq_true this
       rw [HK.out]
       simp only [Int.toNat_natCast]
       omega
      intro h p hp
      obtain ⟨i, hi, rfl⟩ := List.getElem_of_mem hp
      have := h.p i hi
      have e : l.pages.getD i 0 = l.pages[i] := by rw [List.getD_eq_getElem?_getD, List.getElem?_eq_getElem hi]; rfl
      rw [HK.out, e] at this
      simp only [Int.toNat_natCast] at this
      rw [inB_t (by omega)]
      simp
     generalize (l.pages.any fun p => !inB p (x.zs.getD k .zero).z.f ((x.zs.getD k .zero).z.t - 1)) = r at hfin ⊢
     clear HI b0 b1 b2 b3 a0
     go_wp2
     go_ret
     exact ⟨⟨_, rfl, hfin.out⟩, hB2⟩
    rw [inB_f h4]
    have hn : Hid (¬ LsOkX x l) := fun h => h4 h.t
    go_wp2
    go_ret
    exact ⟨HN'.out _ rfl hn.out, hB1⟩
   have hn : Hid (¬ LsOkX x l) := fun h => h3 h.z.2
   go_wp2
   go_ret
   exact ⟨HN'.out _ rfl hn.out, hB1⟩
  have hn : Hid (¬ LsOkX x l) := fun h => h2 h.z.1
  go_wp2
  go_ret
  exact ⟨HN'.out _ rfl hn.out, hB1⟩
 rw [inB_f h1]
 have hn : Hid (¬ LsOkX x l) := fun h => h1 h.c
 go_wp2
 go_ret
 exact ⟨HN'.out _ rfl hn.out, hB1⟩
structure LssOkX (x : Hx) : Prop where
 ok : ∀ i, i < x.ln → LsOkX x (x.ls.getD i .zero).l
 ord : ∀ i, 0 < i → i < x.ln → aheadL (x.ls.getD (i - 1) .zero).l (x.ls.getD i .zero).l
def LssTo (x : Hx) (k : Nat) : Prop := (∀ i, i < k → LsOkX x (x.ls.getD i .zero).l) ∧ ∀ i, 0 < i → i < k → aheadL (x.ls.getD (i - 1) .zero).l (x.ls.getD i .zero).l
theorem pListsMay_any (w : World) (x : Hx) (hx : x.At w) :
    Calls Tryz.prog 34 #[.agg #[.slice x.zo x.zn x.zc, .slice x.mo x.mn x.mc, .int .i64 x.cpus, .slice x.lo x.ln x.lc, .slice x.vo x.vn x.vc]] w fun e w' => RetIff e (LssOkX x) ∧ Below w.heap.size w w' := by
 obtain ⟨lo, hlo⟩ : ∃ lo, x.lo = lo := ⟨_, rfl⟩
 have hL := hx.lists
 rw [hlo] at hL ⊢
 have HLO : Hid (x.lo = lo) := hlo
 clear hlo
 have hb1 := below_box w (.cells #[.slice x.zo x.zn x.zc, .slice x.mo x.mn x.mc, .int .i64 x.cpus, .slice lo x.ln x.lc, .slice x.vo x.vn x.vc] 34)
 have A1 := hbox_new w (.slice x.zo x.zn x.zc) (.slice x.mo x.mn x.mc) (.int .i64 x.cpus) (.slice lo x.ln x.lc) (.slice x.vo x.vn x.vc) 34
 obtain ⟨W0, hW0⟩ : ∃ W0, w.alloc (.cells #[.slice x.zo x.zn x.zc, .slice x.mo x.mn x.mc, .int .i64 x.cpus, .slice lo x.ln x.lc, .slice x.vo x.vn x.vc] 34) = W0 := ⟨_, rfl⟩
 rw [hW0] at A1 hb1
 have HW0 : Hid _ := hW0
 clear hW0
 replace hx := hx.below hb1
 replace hL := hL.below hb1
 have rl := hx.lists.reach
 have hln := hx.lists.len
 have a3 := A1.c3
 have HNo : Hid (∀ e, (e = Ending.returned (.bool false)) → ¬ LssOkX x → RetIff e (LssOkX x)) := fun e he hn => ⟨false, he, by simp [hn]⟩
 go_enter Tryz.func34, Tryz.ntmps34
 go_wp2_with (rw [HW0.out])
 clear HW0 a3
 go_loopw [8] (fun iv wr => ∃ k : Nat, k ≤ x.ln ∧ iv = .int .i64 k ∧ Hid (LssTo x k) ∧ Below W0.heap.size W0 wr) (fun iv _ => x.ln - (intOf iv).toNat)
 case atStart => exact ⟨0, Nat.zero_le _, rfl, ⟨fun i hi => by omega, fun i _ hi => by omega⟩, Below.refl _ _⟩
 case round =>
  obtain ⟨k, hk, rfl, hTo, hB⟩ := hrel
  by_cases hlt : k < x.ln
  ·obtain ⟨g, off, c, z, t, pages, po, pn, pc, ha, c0, c1, c2, c3, hat, hz⟩ := (hL.below hB).at k hlt
   have hbb := below_box wr (.cells #[.int .i64 c, .int .i64 z, .int .i64 t, .slice po pn pc] 69)
   have ZB := zbox_new wr (.int .i64 c) (.int .i64 z) (.int .i64 t) (.slice po pn pc) 69
   obtain ⟨Wb, hWb⟩ : ∃ Wb, wr.alloc (.cells #[.int .i64 c, .int .i64 z, .int .i64 t, .slice po pn pc] 69) = Wb := ⟨_, rfl⟩
   rw [hWb] at hbb ZB
   have HWb : Hid _ := hWb
   clear hWb
   have hBb := hB.trans (hbb.mono hB.size)
   have B1 := A1.below hBb
   have a0 := B1.c0
   have a1 := B1.c1
   have a2 := B1.c2
   have a3 := B1.c3
   have a4 := B1.c4
   have z0 := ZB.c0
   have z1 := ZB.c1
   have z2 := ZB.c2
   have z3 := ZB.c3
   have HL := pListMay_any Wb x ⟨c, z, t, pages⟩ po pn pc (hx.below hBb) (hat.below hbb)
   dsimp only at HL
   subst ha
   rw [HLO.out] at HL
   go_wp2_with (rw [HWb.out])
   go_at_call 55
   refine HL.mono ?_
   rintro e W2 ⟨⟨r, rfl, hr⟩, hb2⟩
   have HR : Hid (r = true ↔ LsOkX x (x.ls.getD k .zero).l) := by show _ ↔ _; rw [hz.out]; exact hr
   have hB2 := hBb.trans (hb2.mono hBb.size)
   have B2 := A1.below hB2
   have a3' := B2.c3
   replace ZB := ZB.below hb2
   clear HL a0 a1 a2 a3 a4 z0 z1 z2 z3 HWb B1 hr
   have z0 := ZB.c0
   have z1 := ZB.c1
   have z2 := ZB.c2
   have z3 := ZB.c3
   cases r with
   | false =>
    have hn : Hid (¬ LssOkX x) := fun h => absurd (HR.out.2 (h.ok k hlt)) (by simp)
    have hBB := hb1.trans (hB2.mono hb1.size)
    clear HR hTo
    go_wp2
    go_ret
    exact ⟨HNo.out _ rfl hn.out, hBB⟩
   | true =>
    have hok := HR.out.1 rfl
    by_cases h0 : k = 0
    ·have HT : Hid (LssTo x (k + 1)) := by
      refine ⟨fun i hi => ?_, fun i h1 h2 => by omega⟩
      obtain rfl : i = k := by omega
      exact hok
     have H0 : Hid (k = 0) := h0
     clear HR hTo hok hz h0
     go_wp2_with fail
     obtain ⟨K, hK⟩ : ∃ K : Int, (k : Int) = K := ⟨_, rfl⟩
     rw [hK]
     have h0 := H0.out
     have t0 : decide ((0 : Int) < K) = false := decide_eq_false (by omega)
     have HK : Hid ((k : Int) = K) := hK
     have k1 : K = 0 := by omega
     clear h0 hK k1
     have k2 : K ≤ 0 := by have := of_decide_eq_false t0; omega
     have k3 : 0 ≤ K := by have := HK.out; omega
     go_quiet (fail)
     go_wp2
     go_roundw
     case rel => exact ⟨k + 1, by omega, by rw [← HK.out]; go_num, HT, hB2.trans ((below_drawn _).mono hB2.size)⟩
     case measure => rw [← HK.out]; simp [intOf]; omega
    obtain ⟨j, hj⟩ : ∃ j, j + 1 = k := ⟨k - 1, by omega⟩
    obtain ⟨g', off', c', z', t', pages', po', pn', pc', ha', d0, d1, d2, d3, hat', hz'⟩ := (hL.below hB2).at j (by omega)
    simp only [Option.some.injEq, Addr.mk.injEq, and_true] at ha'
    obtain ⟨rfl, rfl⟩ := ha'
    have tj : (j : Int) < (x.ln : Int) := by omega
    have HO : Hid (∀ W, Below W2.heap.size W2 W → Calls Tryz.prog 56 #[.agg #[.int .i64 c', .int .i64 z', .int .i64 t', .slice po' pn' pc'], .agg #[.int .i64 c, .int .i64 z, .int .i64 t, .slice po pn pc]] W fun e w' => e = .returned (.int .i64 (ownC ⟨c', z', t', pages'⟩ ⟨c, z, t, pages⟩)) ∧ Below W2.heap.size W2 w') := fun W hS => by
     refine (pByOwner_any W ⟨c', z', t', pages'⟩ ⟨c, z, t, pages⟩ (.slice po' pn' pc') (.slice po pn pc)).mono ?_
     rintro e w' ⟨rfl, hb⟩
     exact ⟨rfl, hS.trans (hb.mono hS.size)⟩
    obtain ⟨C, hC⟩ : ∃ C, ownC ⟨c', z', t', pages'⟩ ⟨c, z, t, pages⟩ = C := ⟨_, rfl⟩
    have hrg := ownC_range ⟨c', z', t', pages'⟩ ⟨c, z, t, pages⟩
    have hng := ownC_neg ⟨c', z', t', pages'⟩ ⟨c, z, t, pages⟩
    rw [hC] at HO hrg hng
    have HN : Hid (C < 0 ↔ aheadL (x.ls.getD j .zero).l (x.ls.getD k .zero).l) := by show _ ↔ _; rw [hz.out, hz'.out]; exact hng
    obtain ⟨r1, r2⟩ := hrg
    have m0 : ∀ wx, Below W2.heap.size W2 wx → wx.cell? ⟨w.heap.size, 3, none⟩ = some (.slice (some ⟨g, off, none⟩) x.ln x.lc) := fun wx h => keep a3' h
    have m1 : ∀ wx, Below W2.heap.size W2 wx → wx.cell? ⟨g, off + j * 4, none⟩ = some (.int .i64 c') := fun wx h => keep d0 h
    have m2 : ∀ wx, Below W2.heap.size W2 wx → wx.cell? ⟨g, off + j * 4 + 1, none⟩ = some (.int .i64 z') := fun wx h => keep d1 h
    have m3 : ∀ wx, Below W2.heap.size W2 wx → wx.cell? ⟨g, off + j * 4 + 2, none⟩ = some (.int .i64 t') := fun wx h => keep d2 h
    have m4 : ∀ wx, Below W2.heap.size W2 wx → wx.cell? ⟨g, off + j * 4 + 3, none⟩ = some (.slice po' pn' pc') := fun wx h => keep d3 h
    have n0 : ∀ wx, Below W2.heap.size W2 wx → wx.cell? ⟨wr.heap.size, 0, none⟩ = some (.int .i64 c) := fun wx h => keep z0 h
    have n1 : ∀ wx, Below W2.heap.size W2 wx → wx.cell? ⟨wr.heap.size, 1, none⟩ = some (.int .i64 z) := fun wx h => keep z1 h
    have n2 : ∀ wx, Below W2.heap.size W2 wx → wx.cell? ⟨wr.heap.size, 2, none⟩ = some (.int .i64 t) := fun wx h => keep z2 h
    have n3 : ∀ wx, Below W2.heap.size W2 wx → wx.cell? ⟨wr.heap.size, 3, none⟩ = some (.slice po pn pc) := fun wx h => keep z3 h
    have S0 : Below W2.heap.size W2 W2 := Below.refl _ _
    have hTo' : Hid (aheadL (x.ls.getD j .zero).l (x.ls.getD k .zero).l → LssTo x (k + 1)) := fun hah => ⟨fun i hi => by
        by_cases e : i = k
        ·rw [e]; exact hok
        ·exact hTo.out.1 i (by omega), fun i h1 h2 => by
        by_cases e : i = k
        ·rw [e, ← hj]; rw [← hj] at hah; exact hah
        exact hTo.out.2 i h1 (by omega)⟩
    clear hC hng hz hz' hat hat' HR hTo hok c0 c1 c2 c3 d0 d1 d2 d3 z0 z1 z2 z3 a3' B2 ZB
    have HJ : Hid _ := hj
    clear hj
    go_wp2_with fail
    obtain ⟨K, hK⟩ : ∃ K : Int, (k : Int) = K := ⟨_, rfl⟩
    rw [hK]
    have t0 : (0 : Int) < K := by omega
    have t1 : decide ((0 : Int) < K) = true := decide_eq_true t0
    have ek : K - 1 = (j : Int) := by have := HJ.out; omega
    have kb : K ≤ 140737488351232 := by omega
    have ew : IntKind.i64.wrap (K - 1) = (j : Int) := by rw [ek]; exact IntWalk.i64_in _ (by omega)
    have ewj : IntKind.i64.wrap (j : Int) = (j : Int) := IntWalk.i64_in _ (by omega)
    clear ek
    have t2 : (0 : Int) ≤ (j : Int) := by omega
    have t3 : (j : Int) ≤ (x.ln : Int) := by omega
    have t4 : j < x.ln := by omega
    have HK : Hid ((k : Int) = K) := hK
    clear hK
    go_region_held3 (fun wx => Below W2.heap.size W2 wx) (first | assumption | exact Below.drew (by assumption))
     (first
      | (go_at_call 56; refine (HO.out _ ?_).mono ?_; assumption; rintro e w3 ⟨rfl, hS3⟩))
    have hB3 := hB2.trans (hS3.mono hB2.size)
    by_cases hC : C < 0
    ·have HT := hTo'.out (HN.out.1 hC)
     have HT' : Hid _ := HT
     clear HT HN hTo' HO m0 m1 m2 m3 m4 n0 n1 n2 n3 S0
     go_wp2
     go_roundw
     case rel => exact ⟨k + 1, by omega, by rw [← HK.out]; go_num, HT', hB3⟩
     case measure => rw [← HK.out]; simp [intOf]; omega
    have hn : Hid (¬ LssOkX x) := fun h => hC (HN.out.2 (by have := h.ord k (by omega) hlt; rw [show k - 1 = j by have := HJ.out; omega] at this; exact this))
    have hBB := hb1.trans (hB3.mono hb1.size)
    clear HN hTo' HO m0 m1 m2 m3 m4 n0 n1 n2 n3 S0
    go_wp2
    go_ret
    exact ⟨HNo.out _ rfl hn.out, hBB⟩
  have hY : Hid (LssOkX x) := ⟨fun i hi => hTo.out.1 i (by omega), fun i h1 h2 => hTo.out.2 i h1 (by omega)⟩
  have hBB := hb1.trans (hB.mono hb1.size)
  clear hTo
  go_wp2
  go_ret
  exact ⟨⟨true, rfl, fun _ => hY.out, fun _ => rfl⟩, hBB⟩
def LvTo (l : List Bk) (k : Nat) : Prop := (∀ i, i < k → LvOk (l.getD i .zero)) ∧ ∀ i, 0 < i → i < k → (l.getD (i - 1) .zero).a < (l.getD i .zero).a
def leastL (l : List Bk) (k : Nat) : Int := if k = 0 then 0 else (l.getD (k - 1) .zero).a + 1
theorem sameQ {F : Nat} {args : Array Value} {v : Value} (h : ∀ w : World, Calls Tryz.prog F args w fun e w' => e = .returned v ∧ w = w') (w : World) : Calls Tryz.prog F args w fun e w' => e = .returned v ∧ w' = w := (h w).mono fun _ _ ⟨a, b⟩ => ⟨a, b.symm⟩
theorem pLiveMay_any (w : World) (ao : Option Addr) (n cap : Nat) (l : List Bk) (h : Blks w ao n l) :
    Calls Tryz.prog 35 #[.slice ao n cap] w fun e w' => RetIff e (LvsOk l) ∧ Below w.heap.size w w' := by
 have hn := h.len
 have hr := h.reach
 have HNo : Hid (∀ e, (e = Ending.returned (.bool false)) → ¬ LvsOk l → RetIff e (LvsOk l)) := fun e he hn => ⟨false, he, by simp [hn]⟩
 go_enter Tryz.func35, Tryz.ntmps35
 go_wp2
 go_loopw [3, 8] (fun lv iv wr => ∃ (k : Nat) (L : Int), k ≤ n ∧ lv = .int .i64 L ∧ iv = .int .i64 k ∧ Hid (L = leastL l k) ∧ Hid (LvTo l k) ∧ Below w.heap.size w wr) (fun _ iv _ => n - (intOf iv).toNat)
 case atStart => exact ⟨0, 0, Nat.zero_le _, rfl, rfl, rfl, ⟨fun i hi => by omega, fun i _ hi => by omega⟩, Below.refl _ _⟩
 case round =>
  obtain ⟨k, L, hk, rfl, rfl, hL, HTo, hB⟩ := hrel
  have l0 : 0 ≤ L ∧ L ≤ 256 := by
   rw [hL.out]
   unfold leastL
   by_cases e : k = 0
   ·rw [if_pos e]; omega
   rw [if_neg e]; have := (HTo.out.1 (k - 1) (by omega)).a; omega
  obtain ⟨l1, l2⟩ := l0
  by_cases hlt : k < n
  ·obtain ⟨b, off, a, o, t, rfl, c0, c1, c2, HX⟩ := (h.below hB).at_.at k (by omega)
   have hbb := below_box wr (.cells #[.int .i64 a, .int .i64 o, .int .i64 t] 40)
   have y0 : (wr.alloc (.cells #[.int .i64 a, .int .i64 o, .int .i64 t] 40)).cell? ⟨wr.heap.size, 0, none⟩ = some (.int .i64 a) := by go_simp
   have y1 : (wr.alloc (.cells #[.int .i64 a, .int .i64 o, .int .i64 t] 40)).cell? ⟨wr.heap.size, 1, none⟩ = some (.int .i64 o) := by go_simp
   have y2 : (wr.alloc (.cells #[.int .i64 a, .int .i64 o, .int .i64 t] 40)).cell? ⟨wr.heap.size, 2, none⟩ = some (.int .i64 t) := by go_simp
   obtain ⟨Wb, hWb⟩ : ∃ Wb, wr.alloc (.cells #[.int .i64 a, .int .i64 o, .int .i64 t] 40) = Wb := ⟨_, rfl⟩
   rw [hWb] at hbb y0 y1 y2
   have HWb : Hid _ := hWb
   have hBb := hB.trans (hbb.mono hB.size)
   clear hWb
   have HOrd := sameQ fun W => pIsOrder_any W o
   have HTyp := sameQ fun W => pIsType_any W t
   go_wp2_with (rw [HWb.out])
   clear HWb c0 c1 c2 hbb
   by_cases h1 : ordOk o
   ·rw [inB_t (show 0 ≤ o ∧ o ≤ 4 from h1)] at HOrd
    by_cases h2 : typeOk t
    ·rw [inB_t (show 0 ≤ t ∧ t ≤ 2 from h2)] at HTyp
     by_cases h3 : a < L
     ·have d3 : decide (a < L) = true := decide_eq_true h3
      have hn : Hid (¬ LvsOk l) := fun h => by
       have hk := h.ok k (by omega)
       rw [HX.out] at hk
       by_cases e : k = 0
       ·have := hL.out; unfold leastL at this; rw [if_pos e] at this; have := hk.a; dsimp only at this; omega
       have h5 := hL.out; unfold leastL at h5; rw [if_neg e] at h5; have := h.ord k (by omega) (by omega); rw [HX.out] at this; dsimp only at this; omega
      clear HTo HX hL
      go_quiet (first | (go_at_call 44; exact Calls.quiet_of_same (HOrd _)) | (go_at_call 57; exact Calls.quiet_of_same (HTyp _)))
      go_wp2
      go_ret
      exact ⟨HNo.out _ rfl hn.out, hBb.trans ((below_drawn _).mono hBb.size)⟩
     have d3 : decide (a < L) = false := decide_eq_false h3
     by_cases h4 : 256 ≤ a
     ·have d4 : decide ((256 : Int) ≤ a) = true := decide_eq_true h4
      have hn : Hid (¬ LvsOk l) := fun h => by
       have hk := h.ok k (by omega)
       rw [HX.out] at hk
       have := hk.a; dsimp only at this; omega
      clear HTo HX hL
      go_quiet (first | (go_at_call 44; exact Calls.quiet_of_same (HOrd _)) | (go_at_call 57; exact Calls.quiet_of_same (HTyp _)))
      go_wp2
      go_ret
      exact ⟨HNo.out _ rfl hn.out, hBb.trans ((below_drawn _).mono hBb.size)⟩
     have d4 : decide ((256 : Int) ≤ a) = false := decide_eq_false h4
     have a0 : 0 ≤ a := by omega
     have hp := pw_pos o
     have hp16 := pw_le h1
     have hw1 : IntKind.i64.wrap ((2 : Int) ^ o.toNat) = pw o := by rcases ord_cases h1 with ⟨rfl, e⟩ | ⟨rfl, e⟩ | ⟨rfl, e⟩ | ⟨rfl, e⟩ | ⟨rfl, e⟩ <;> (rw [e]; rfl)
     obtain ⟨P, hP⟩ : ∃ P, pw o = P := ⟨_, rfl⟩
     have HP : Hid (pw o = P) := hP
     rw [hP] at hp hp16 hw1
     obtain ⟨M, hM⟩ : ∃ M : Int, a.tmod P = M := ⟨_, rfl⟩
     have hM2 : Hid (M = a % P) := by show _ = _; rw [← hM, Int.tmod_eq_emod_of_nonneg a0]
     have m1 : 0 ≤ M := by rw [hM2.out]; exact Int.emod_nonneg _ (by omega)
     have m2 : M < 16 := by rw [hM2.out]; have := Int.emod_lt_of_pos a (show 0 < P by omega); omega
     have hwM : IntKind.i64.wrap M = M := IntWalk.i64_in _ (by omega)
     have hP0 : (P == 0) = false := by simp; omega
     have hem : a % P = M := hM2.out.symm
     obtain ⟨o0, o4⟩ := id h1
     clear hP
     by_cases h5 : M = 0
     ·have d5 : (M == 0) = true := by simp [h5]
      have hok : LvOk ⟨a, o, t⟩ := ⟨h1, ⟨a0, by show a < 256; omega⟩, by show a % pw o = 0; rw [HP.out, ← hM2.out]; exact h5, h2⟩
      have HT : Hid (LvTo l (k + 1)) := ⟨fun i hi => by
          by_cases e : i = k
          ·rw [e, HX.out]; exact hok
          ·exact HTo.out.1 i (by omega), fun i g1 g2 => by
          by_cases e : i = k
          ·rw [e, HX.out]
           have := hL.out
           unfold leastL at this
           rw [if_neg (by omega)] at this
           show _ < a
           omega
          exact HTo.out.2 i g1 (by omega)⟩
      have HL2 : Hid (a + 1 = leastL l (k + 1)) := by
       show _ = _
       unfold leastL
       rw [if_neg (by omega), show k + 1 - 1 = k by omega, HX.out]
      clear HTo hL HX hok h5
      go_quiet (first | (go_at_call 44; exact Calls.quiet_of_same (HOrd _)) | (go_at_call 57; exact Calls.quiet_of_same (HTyp _)))
      have hB9 := hBb.trans ((below_drawn nq).mono hBb.size)
      replace y0 := keep y0 (below_drawn nq)
      generalize Wb.drewN nq = W9 at hB9 y0 ⊢
      clear hw1 hM hwM hem HOrd HTyp y1 y2
      go_wp2
      go_roundw
      case rel => exact ⟨k + 1, a + 1, by omega, rfl, by go_num, HL2, HT, hB9⟩
      case measure => simp [intOf]; omega
     have d5 : (M == 0) = false := by simpa using h5
     have hn : Hid (¬ LvsOk l) := fun h => by
      have hk := h.ok k (by omega)
      rw [HX.out] at hk
      have := hk.m
      dsimp only at this
      rw [HP.out, ← hM2.out] at this
      exact h5 this
     clear HTo HX hL
     go_quiet (first | (go_at_call 44; exact Calls.quiet_of_same (HOrd _)) | (go_at_call 57; exact Calls.quiet_of_same (HTyp _)))
     go_wp2
     go_ret
     exact ⟨HNo.out _ rfl hn.out, hBb.trans ((below_drawn _).mono hBb.size)⟩
    rw [inB_f (show ¬ (0 ≤ t ∧ t ≤ 2) from h2)] at HTyp
    have hn : Hid (¬ LvsOk l) := fun h => by
     have hk := h.ok k (by omega)
     rw [HX.out] at hk
     exact h2 hk.t
    clear HTo HX hL
    go_quiet (first | (go_at_call 44; exact Calls.quiet_of_same (HOrd _)) | (go_at_call 57; exact Calls.quiet_of_same (HTyp _)))
    go_wp2
    go_ret
    exact ⟨HNo.out _ rfl hn.out, hBb.trans ((below_drawn _).mono hBb.size)⟩
   rw [inB_f (show ¬ (0 ≤ o ∧ o ≤ 4) from h1)] at HOrd
   have hn : Hid (¬ LvsOk l) := fun h => by
    have hk := h.ok k (by omega)
    rw [HX.out] at hk
    exact h1 hk.o
   clear HTo HX hL
   go_quiet (first | (go_at_call 44; exact Calls.quiet_of_same (HOrd _)) | (go_at_call 57; exact Calls.quiet_of_same (HTyp _)))
   go_wp2
   go_ret
   exact ⟨HNo.out _ rfl hn.out, hBb.trans ((below_drawn _).mono hBb.size)⟩
  have hY : Hid (LvsOk l) := ⟨fun i hi => HTo.out.1 i (by omega), fun i h1 h2 => HTo.out.2 i h1 (by omega)⟩
  clear HTo hL
  go_wp2
  go_ret
  exact ⟨⟨true, rfl, fun _ => hY.out, fun _ => rfl⟩, hB⟩
end Go.Proofs.YtjohdbiipeedkaaGreatDoor
namespace Go.Proofs.YtjohdbiipeedkaaGreatDoor.Kit
def isB (a o : Int) (b : Bk) : Bool := decide (b.a = a ∧ b.o = o)
def dropB (l : List Bk) (a o : Int) : List Bk := l.filter fun b => !isB a o b
def hasB (l : List Bk) (a o : Int) : Bool := l.any (isB a o)
theorem dropB_len (l : List Bk) (a o : Int) : (dropB l a o).length ≤ l.length := List.length_filter_le _ _
def addB : List Bk → Bk → List Bk
 | [], b => [b]
 | x :: l, b => if x.a > b.a then b :: x :: l else x :: addB l b
theorem addB_len (l : List Bk) (b : Bk) : (addB l b).length = l.length + 1 := by
 induction l with
 | nil => rfl
 | cons x l ih =>
  simp only [addB]
  split
  ·simp
  simp [ih]
def gtB (l : List Bk) (b : Bk) : Bool := l.any fun x => decide (x.a > b.a)
def outB (l : List Bk) (b : Bk) : List Bk := if gtB l b = true then addB l b else l
def besideA (a o : Int) : Int := if a % pw (o + 1) = 0 then a + pw o else a - pw o
def backGo : Nat → List Bk → Int → Int → List Bk × Int × Int
 | 0, l, a, o => (l, a, o)
 | n + 1, l, a, o => if hasB l (besideA a o) o = true then backGo n (dropB l (besideA a o) o) (if besideA a o < a then besideA a o else a) (o + 1) else (l, a, o)
def backZ (z : Zn) (a o : Int) : Zn :=
 ⟨z.f, z.t, addB (backGo (4 - o).toNat z.free a o).1 ⟨(backGo (4 - o).toNat z.free a o).2.1, (backGo (4 - o).toNat z.free a o).2.2, z.types.getD (((backGo (4 - o).toNat z.free a o).2.1 - z.f) / 8).toNat 0⟩, z.types⟩
theorem dropB_mem {l : List Bk} {a o : Int} {b : Bk} (h : b ∈ dropB l a o) : b ∈ l := (List.mem_filter.1 h).1
theorem hasB_in {l : List Bk} {f t a o : Int} (h : hasB l a o = true) (hl : ∀ b ∈ l, blkIn f t b.a b.o) : blkIn f t a o := by
 unfold hasB at h
 rw [List.any_eq_true] at h
 obtain ⟨b, hb, hi⟩ := h
 have := of_decide_eq_true hi
 have h2 := hl b hb
 rw [this.1, this.2] at h2
 exact h2
theorem join_in {f t a o : Int} (h : blkIn f t a o) (hb : blkIn f t (besideA a o) o) (ho : o < 4) : blkIn f t (if besideA a o < a then besideA a o else a) (o + 1) := by
 obtain ⟨⟨h1, h2⟩, h3, h4, h5⟩ := h
 obtain ⟨_, g3, g4, g5⟩ := hb
 have ho' : ordOk (o + 1) := ⟨by omega, by omega⟩
 rcases (show o = 0 ∨ o = 1 ∨ o = 2 ∨ o = 3 by omega) with rfl | rfl | rfl | rfl
 all_goals
  unfold besideA at g3 g4 g5 ⊢
  simp only [pw_0, pw_1, pw_2, pw_3, pw_4, show (0 : Int) + 1 = 1 from rfl, show (1 : Int) + 1 = 2 from rfl, show (2 : Int) + 1 = 3 from rfl, show (3 : Int) + 1 = 4 from rfl] at g3 g4 g5 h5 ⊢
  refine ⟨⟨by omega, by omega⟩, ?_, ?_, ?_⟩
  ·split at g3 <;> split <;> omega
  ·split at g4 <;> split <;> omega
  simp only [pw_1, pw_2, pw_3, pw_4]
  split at g5 <;> split <;> omega
end Go.Proofs.YtjohdbiipeedkaaGreatDoor.Kit
namespace Go.Proofs.YtjohdbiipeedkaaGreatDoor
open Go Go.RowKit Go.Proofs.YtjohdbiipeedkaaGreatDoor.Kit
theorem isType_any (w : World) (x : Int) :
    Calls Tryz.prog 93 #[.int .i64 x] w fun e w' => e = .returned (.bool (inB x 0 2)) ∧ w = w' := by
 by_cases h1 : 0 ≤ x
 ·by_cases h2 : x < 3
  ·have HR : Hid (inB x 0 2 = true) := inB_t (by omega)
   go_enter Tryz.func93, Tryz.ntmps93
   go_wp2
   go_ret
   exact ⟨ret_bool HR.out.symm, rfl⟩
  have HR : Hid (inB x 0 2 = false) := inB_f (by omega)
  go_enter Tryz.func93, Tryz.ntmps93
  go_wp2
  go_ret
  exact ⟨ret_bool HR.out.symm, rfl⟩
 have HR : Hid (inB x 0 2 = false) := inB_f (by omega)
 go_enter Tryz.func93, Tryz.ntmps93
 go_wp2
 go_ret
 exact ⟨ret_bool HR.out.symm, rfl⟩
theorem isOrder_any (w : World) (x : Int) :
    Calls Tryz.prog 106 #[.int .i64 x] w fun e w' => e = .returned (.bool (inB x 0 4)) ∧ w = w' := by
 by_cases h1 : 0 ≤ x
 ·by_cases h2 : x ≤ 4
  ·have HR : Hid (inB x 0 4 = true) := inB_t (by omega)
   go_enter Tryz.func106, Tryz.ntmps106
   go_wp2
   go_ret
   exact ⟨ret_bool HR.out.symm, rfl⟩
  have HR : Hid (inB x 0 4 = false) := inB_f (by omega)
  go_enter Tryz.func106, Tryz.ntmps106
  go_wp2
  go_ret
  exact ⟨ret_bool HR.out.symm, rfl⟩
 have HR : Hid (inB x 0 4 = false) := inB_f (by omega)
 go_enter Tryz.func106, Tryz.ntmps106
 go_wp2
 go_ret
 exact ⟨ret_bool HR.out.symm, rfl⟩
theorem isPage_any (w : World) (f t : Int) (fo to_ : Option Addr) (fn fc tn tc : Nat) (a : Int) :
    Calls Tryz.prog 101 #[.agg #[.int .i64 f, .int .i64 t, .slice fo fn fc, .slice to_ tn tc], .int .i64 a] w fun e w' => e = .returned (.bool (inB a f (t - 1))) ∧ Below w.heap.size w w' := by
 have hb1 := below_box w (.cells #[.int .i64 f, .int .i64 t, .slice fo fn fc, .slice to_ tn tc] 54)
 by_cases h1 : f ≤ a
 ·by_cases h2 : a < t
  ·have HR : Hid (inB a f (t - 1) = true) := inB_t (by omega)
   go_enter Tryz.func101, Tryz.ntmps101
   go_wp2
   go_ret
   exact ⟨ret_bool HR.out.symm, hb1⟩
  have HR : Hid (inB a f (t - 1) = false) := inB_f (by omega)
  go_enter Tryz.func101, Tryz.ntmps101
  go_wp2
  go_ret
  exact ⟨ret_bool HR.out.symm, hb1⟩
 have HR : Hid (inB a f (t - 1) = false) := inB_f (by omega)
 go_enter Tryz.func101, Tryz.ntmps101
 go_wp2
 go_ret
 exact ⟨ret_bool HR.out.symm, hb1⟩
theorem behind_any (w : World) (a o x : Int) (ho : ordOk o) (h0 : 0 ≤ a) (h1 : a ≤ 256) :
    Calls Tryz.prog 95 #[.agg #[.int .i64 a, .int .i64 o, .int .i64 x]] w fun e w' => e = .returned (.int .i64 (a + pw o)) ∧ Below w.heap.size w w' := by
 have hb1 := below_box w (.cells #[.int .i64 a, .int .i64 o, .int .i64 x] 40)
 rcases ord_cases ho with ⟨rfl, e⟩ | ⟨rfl, e⟩ | ⟨rfl, e⟩ | ⟨rfl, e⟩ | ⟨rfl, e⟩
 all_goals
  rw [e]
  clear e ho
  go_enter Tryz.func95, Tryz.ntmps95
  go_wp2
  go_quiet (fail)
  go_wp2
  go_ret
  exact ⟨rfl, below_drewN hb1 _⟩
theorem blkMay_any (w : World) (f t : Int) (fo to_ : Option Addr) (fn fc tn tc : Nat) (a o : Int) (h : newOk f t) :
    Calls Tryz.prog 94 #[.agg #[.int .i64 f, .int .i64 t, .slice fo fn fc, .slice to_ tn tc], .int .i64 a, .int .i64 o] w fun e w' => e = .returned (.bool (blkB f t a o)) ∧ Below w.heap.size w w' := by
 obtain ⟨h1, h2, h3, h4, h5⟩ := h
 have hb1 := below_box w (.cells #[.int .i64 f, .int .i64 t, .slice fo fn fc, .slice to_ tn tc] 54)
 have Z0 := zbox_new w (.int .i64 f) (.int .i64 t) (.slice fo fn fc) (.slice to_ tn tc) 54
 have c0 := Z0.c0
 have c1 := Z0.c1
 have c2 := Z0.c2
 have c3 := Z0.c3
 by_cases p1 : 0 ≤ o ∧ o ≤ 4
 ·have e1 : Hid (inB o 0 4 = true) := inB_t p1
  by_cases p2 : f ≤ a ∧ a ≤ t - 1
  ·have e2 : Hid (inB a f (t - 1) = true) := inB_t p2
   obtain ⟨A, rfl⟩ : ∃ A : Nat, a = A := ⟨a.toNat, by omega⟩
   obtain ⟨r, hr⟩ : ∃ r, blkB f t (A : Int) o = r := ⟨_, rfl⟩
   rw [hr]
   rcases ord_cases p1 with ⟨rfl, e⟩ | ⟨rfl, e⟩ | ⟨rfl, e⟩ | ⟨rfl, e⟩ | ⟨rfl, e⟩
   all_goals
    unfold blkB at hr
    rw [e1.out, e2.out, e, Bool.true_and, Bool.true_and] at hr
    have HR : Hid _ := hr
    clear hr e p1
    go_enter Tryz.func94, Tryz.ntmps94
    go_wp2_with fail
    go_at_call 106
    refine (isOrder_any _ _).mono ?_
    rintro e w' ⟨rfl, rfl⟩
    rw [e1.out]
    go_wp2_with fail
    go_at_call 101
    refine (isPage_any _ _ _ _ _ _ _ _ _ _).mono ?_
    rintro e w2 ⟨rfl, hb2⟩
    rw [e2.out]
    have hB := hb1.trans (hb2.mono hb1.size)
    clear c0 c1 c2 c3 Z0
    go_wp2
    go_ret
    exact ⟨ret_bool (by first | exact HR.out | (rw [← HR.out]; simp)), hB⟩
  have e2 : Hid (inB a f (t - 1) = false) := inB_f p2
  have HR : Hid (blkB f t a o = false) := by show _ = _; unfold blkB; rw [e1.out, e2.out]; rfl
  go_enter Tryz.func94, Tryz.ntmps94
  go_wp2_with fail
  go_at_call 106
  refine (isOrder_any _ _).mono ?_
  rintro e w' ⟨rfl, rfl⟩
  rw [e1.out]
  go_wp2_with fail
  go_at_call 101
  refine (isPage_any _ _ _ _ _ _ _ _ _ _).mono ?_
  rintro e w2 ⟨rfl, hb2⟩
  rw [e2.out]
  have hB := hb1.trans (hb2.mono hb1.size)
  clear c0 c1 c2 c3 Z0
  go_wp2
  go_ret
  exact ⟨ret_bool HR.out.symm, hB⟩
 have e1 : Hid (inB o 0 4 = false) := inB_f p1
 have HR : Hid (blkB f t a o = false) := by show _ = _; unfold blkB; rw [e1.out]; rfl
 go_enter Tryz.func94, Tryz.ntmps94
 go_wp2_with fail
 go_at_call 106
 refine (isOrder_any _ _).mono ?_
 rintro e w' ⟨rfl, rfl⟩
 rw [e1.out]
 go_wp2
 go_ret
 exact ⟨ret_bool HR.out.symm, hb1⟩
theorem xor_0 : ∀ a : Nat, a < 256 → bits BinOp.xor IntKind.i64 (a : Int) 1 = besideA a 0 := by decide +kernel
theorem xor_1 : ∀ a : Nat, a < 256 → a % 2 = 0 → bits BinOp.xor IntKind.i64 (a : Int) 2 = besideA a 1 := by decide +kernel
theorem xor_2 : ∀ a : Nat, a < 256 → a % 4 = 0 → bits BinOp.xor IntKind.i64 (a : Int) 4 = besideA a 2 := by decide +kernel
theorem xor_3 : ∀ a : Nat, a < 256 → a % 8 = 0 → bits BinOp.xor IntKind.i64 (a : Int) 8 = besideA a 3 := by decide +kernel
theorem beside_any (w : World) (a : Nat) (o : Int) (ho : ordOk o) (h4 : o < 4) (h1 : a < 256) (hm : (a : Int) % pw o = 0) :
    Calls Tryz.prog 112 #[.int .i64 a, .int .i64 o] w fun e w' => e = .returned (.int .i64 (besideA a o)) ∧ w = w' := by
 rcases ord_cases ho with ⟨rfl, e⟩ | ⟨rfl, e⟩ | ⟨rfl, e⟩ | ⟨rfl, e⟩ | ⟨rfl, e⟩
 ·have HX : Hid (bits BinOp.xor IntKind.i64 (a : Int) 1 = besideA a 0) := xor_0 a h1
  clear e ho hm
  go_enter Tryz.func112, Tryz.ntmps112
  go_wp2
  go_ret
  exact ⟨congrArg (fun v => Ending.returned (.int .i64 v)) HX.out, rfl⟩
 ·rw [e] at hm
  have HX : Hid (bits BinOp.xor IntKind.i64 (a : Int) 2 = besideA a 1) := xor_1 a h1 (by omega)
  clear e ho hm
  go_enter Tryz.func112, Tryz.ntmps112
  go_wp2
  go_ret
  exact ⟨congrArg (fun v => Ending.returned (.int .i64 v)) HX.out, rfl⟩
 ·rw [e] at hm
  have HX : Hid (bits BinOp.xor IntKind.i64 (a : Int) 4 = besideA a 2) := xor_2 a h1 (by omega)
  clear e ho hm
  go_enter Tryz.func112, Tryz.ntmps112
  go_wp2
  go_ret
  exact ⟨congrArg (fun v => Ending.returned (.int .i64 v)) HX.out, rfl⟩
 ·rw [e] at hm
  have HX : Hid (bits BinOp.xor IntKind.i64 (a : Int) 8 = besideA a 3) := xor_3 a h1 (by omega)
  clear e ho hm
  go_enter Tryz.func112, Tryz.ntmps112
  go_wp2
  go_ret
  exact ⟨congrArg (fun v => Ending.returned (.int .i64 v)) HX.out, rfl⟩
 omega
def areB (p b : Bk) : Bool := decide (p.o = b.o) && (decide (p.o < 4) && decide (b.a = besideA p.a p.o))
theorem areB_iff {p b : Bk} (h : p.a + pw p.o ≤ b.a) : areB p b = true ↔ besideP p b := by
 unfold areB besideP besideA
 simp only [Bool.and_eq_true, decide_eq_true_eq]
 have := pw_pos p.o
 constructor
 ·rintro ⟨h1, h2, h3⟩
  rw [← h1]
  split at h3
  ·exact ⟨h2, rfl, h3.symm, by assumption⟩
  omega
 rintro ⟨h1, h2, h3, h4⟩
 rw [← h2] at h1 h3 h4
 rw [if_pos h4]
 exact ⟨h2, h1, h3.symm⟩
theorem areBeside_any (w : World) (p b : Bk) (hp : ordOk p.o) (h0 : 0 ≤ p.a) (h1 : p.a < 256) (hm : p.a % pw p.o = 0) :
    Calls Tryz.prog 96 #[.agg #[.int .i64 p.a, .int .i64 p.o, .int .i64 p.t], .agg #[.int .i64 b.a, .int .i64 b.o, .int .i64 b.t]] w fun e w' => e = .returned (.bool (areB p b)) ∧ Below w.heap.size w w' := by
 obtain ⟨pa, po, pt⟩ := p
 obtain ⟨ba, bo, bt⟩ := b
 dsimp only at hp h0 h1 hm ⊢
 obtain ⟨A, rfl⟩ : ∃ A : Nat, pa = A := ⟨pa.toNat, by omega⟩
 have hb2 : Below w.heap.size w ((w.alloc (.cells #[.int .i64 A, .int .i64 po, .int .i64 pt] 40)).alloc (.cells #[.int .i64 ba, .int .i64 bo, .int .i64 bt] 40)) := ((Below.refl _ _).alloc (Nat.le_refl _) _).alloc (by simp) _
 obtain ⟨r, hr⟩ : ∃ r, areB ⟨A, po, pt⟩ ⟨ba, bo, bt⟩ = r := ⟨_, rfl⟩
 rw [hr]
 have HR : Hid (areB ⟨A, po, pt⟩ ⟨ba, bo, bt⟩ = r) := hr
 clear hr
 by_cases q1 : po = bo
 ·subst q1
  by_cases q2 : po < 4
  ·have HC := fun W => (beside_any W A po hp q2 (by omega) hm).mono (fun e w' (g : e = .returned (.int .i64 (besideA A po)) ∧ W = w') => (show e = .returned (.int .i64 (besideA A po)) ∧ w' = W from ⟨g.1, g.2.symm⟩))
   have q2' : decide (po < 4) = true := decide_eq_true q2
   have HR2 : Hid (decide (ba = besideA A po) = r) := by show _ = _; rw [← HR.out]; unfold areB; simp [q2]
   obtain ⟨X, hX⟩ : ∃ X, besideA A po = X := ⟨_, rfl⟩
   rw [hX] at HC HR2
   clear hX HR hm
   go_enter Tryz.func96, Tryz.ntmps96
   go_wp2
   go_quiet ((go_at_call 112; exact Calls.quiet_of_same (HC _)))
   clear HC
   go_wp2
   go_ret
   exact ⟨ret_bool HR2.out, below_drewN hb2 _⟩
  have HR2 : Hid (false = r) := by show _ = _; rw [← HR.out]; unfold areB; simp [q2]
  have q2' : decide (po < 4) = false := decide_eq_false q2
  clear HR hm
  go_enter Tryz.func96, Tryz.ntmps96
  go_wp2
  go_quiet (fail)
  go_wp2
  go_ret
  exact ⟨ret_bool HR2.out, below_drewN hb2 _⟩
 have HR2 : Hid (false = r) := by show _ = _; rw [← HR.out]; unfold areB; simp [q1]
 have q1' : (po == bo) = false := by simpa using q1
 clear HR hm q1
 go_enter Tryz.func96, Tryz.ntmps96
 go_wp2
 go_quiet (fail)
 go_wp2
 go_ret
 exact ⟨ret_bool HR2.out, below_drewN hb2 _⟩
def newB (f t : Int) : Bool := decide (0 ≤ f ∧ f ≤ t ∧ t ≤ 256 ∧ f % 16 = 0 ∧ t % 16 = 0)
theorem newB_iff (f t : Int) : newB f t = true ↔ newOk f t := by unfold newB newOk; simp
theorem newB_t {f t : Int} (h : newOk f t) : newB f t = true := (newB_iff f t).2 h
theorem newB_f {f t : Int} (h : ¬ newOk f t) : newB f t = false := by
 cases g : newB f t with
 | false => rfl
 | true => exact absurd ((newB_iff f t).1 g) h
theorem bounds_any (w : World) (f t : Int) :
    Calls Tryz.prog 70 #[.int .i64 f, .int .i64 t] w fun e w' => e = .returned (.bool (newB f t)) ∧ w = w' := by
 by_cases h1 : 0 ≤ f
 ·by_cases h2 : f ≤ t
  ·by_cases h3 : t ≤ 256
   ·obtain ⟨F, rfl⟩ : ∃ F : Nat, f = F := ⟨f.toNat, by omega⟩
    obtain ⟨T, rfl⟩ : ∃ T : Nat, t = T := ⟨t.toNat, by omega⟩
    by_cases h4 : (F : Int) % 16 = 0
    ·by_cases h5 : (T : Int) % 16 = 0
     ·have HR : Hid (newB F T = true) := newB_t ⟨h1, h2, h3, h4, h5⟩
      go_enter Tryz.func70, Tryz.ntmps70
      go_wp2
      go_ret
      exact ⟨ret_bool HR.out.symm, rfl⟩
     have HR : Hid (newB F T = false) := newB_f fun g => h5 g.2.2.2.2
     have h5' : ((T : Int) % 16 == 0) = false := by simpa using h5
     clear h5
     go_enter Tryz.func70, Tryz.ntmps70
     go_wp2
     go_ret
     exact ⟨ret_bool HR.out.symm, rfl⟩
    have HR : Hid (newB F T = false) := newB_f fun g => h4 g.2.2.2.1
    have h4' : ((F : Int) % 16 == 0) = false := by simpa using h4
    clear h4
    go_enter Tryz.func70, Tryz.ntmps70
    go_wp2
    go_ret
    exact ⟨ret_bool HR.out.symm, rfl⟩
   have HR : Hid (newB f t = false) := newB_f fun g => h3 g.2.2.1
   go_enter Tryz.func70, Tryz.ntmps70
   go_wp2
   go_ret
   exact ⟨ret_bool HR.out.symm, rfl⟩
  have HR : Hid (newB f t = false) := newB_f fun g => h2 g.2.1
  go_enter Tryz.func70, Tryz.ntmps70
  go_wp2
  go_ret
  exact ⟨ret_bool HR.out.symm, rfl⟩
 have HR : Hid (newB f t = false) := newB_f fun g => h1 g.1
 go_enter Tryz.func70, Tryz.ntmps70
 go_wp2
 go_ret
 exact ⟨ret_bool HR.out.symm, rfl⟩
end Go.Proofs.YtjohdbiipeedkaaGreatDoor
