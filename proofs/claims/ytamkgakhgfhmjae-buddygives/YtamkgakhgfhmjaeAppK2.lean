/-
  OWN TEXT. Rows that grow, and what two copies leave; over whatever program.
-/
import Derived.Test.YtamkgakhgfhmjaeAppK
namespace Go.Proofs.Ytamkgakhgfhmjae.Kit
open Go Go.RowKit

theorem row_new {w : World} {e : TypeId} {size cap : Nat} {A : Array Value} (hs : A.size = cap * size) (hm : cap ≤ maxLen) : Row (w.drew.alloc (.cells A e)) e size w.heap.size cap A.toList := by
  refine ⟨?_, by simpa using hs, hm⟩
  have := heap_alloc_new w.drew (.cells A e)
  simpa using this
theorem below_new (w : World) (o : Obj) : Below w.heap.size w (w.drew.alloc o) := ((Below.refl _ _).drew).alloc (Nat.le_refl _) o

theorem grow_some {P : Program} (w : World) (t ty e : TypeId) (i : TypeInfo) (z : Value) (size : Nat) (ht : P.underlying t = some (.slice e)) (hi : P.info? e = some i) (hz : i.zero = some z) (hsz : i.size = size) (hzs : z.cells.size = size)
    (b : Addr) (sLen sCap : Nat) (olds : List Value) (hlo : olds.length = sLen * size) (holds : ∀ j v, olds[j]? = some v → w.cell? (b.add j) = some v)
    (a : Addr) (n c : Nat) (news : List Value) (hl : news.length = n * size) (hnews : ∀ j v, news[j]? = some v → w.cell? (a.add j) = some v)
    (hg : sCap < sLen + n) (hm : sLen + n ≤ maxLen) (hby : (sLen + n) * i.bytes ≤ 140737488355328) :
    ∃ cap' W cur, (Builtin.append_ #[t, t] ty #[.slice (some b) sLen sCap, .slice (some a) n c]).run P w = .ok (.slice (some ⟨w.heap.size, 0, none⟩) (sLen + n) cap') W ∧
      Row W e size w.heap.size cap' cur ∧ cur.take ((sLen + n) * size) = olds ++ news ∧ sLen + n ≤ cap' ∧ Below w.heap.size w W := by
  subst hsz
  have h63 : ((sLen + n : Nat) : Int) ≤ 9223372036854775807 := by simp only [maxLen] at hm; omega
  have hr := run_append_grow (P := P) w t ty e i z ht hi hz b sLen sCap olds hlo holds a n c news hl hnews hg h63 (growslice_fits hg hby)
  have hc1 := grownCap_ge w (sLen + n) sCap e
  have hc2 := grownCap_le_maxLen w (sLen + n) sCap e hm
  refine ⟨_, _, _, hr, row_new ?_ hc2, ?_, hc1, below_new _ _⟩
  · simp only [Array.size_append, List.size_toArray, size_zeroCells, hlo, hl, hzs]
    rw [← Nat.add_mul, ← Nat.add_mul]
    congr 1
    omega
  · simp only [Array.toList_append]
    rw [List.take_append_of_le_length (by simp [hlo, hl, Nat.add_mul]), List.take_of_length_le (by simp [hlo, hl, Nat.add_mul])]

theorem grow_zeros {P : Program} (w : World) (t tn ty e : TypeId) (i : TypeInfo) (z : Value) (size : Nat) (kq kn : IntKind) (ht : P.underlying t = some (.slice e)) (htn : P.underlying tn = some (.int kn)) (hi : P.info? e = some i) (hz : i.zero = some z) (hsz : i.size = size) (hs0 : 0 < size) (hzs : z.cells.size = size)
    (b : Addr) (sLen sCap : Nat) (olds : List Value) (hlo : olds.length = sLen * size) (holds : ∀ j v, olds[j]? = some v → w.cell? (b.add j) = some v)
    (k : Nat) (h0 : 0 < k) (hg : sCap < sLen + k) (hm : sLen + k ≤ maxLen) (hby : (sLen + k) * i.bytes ≤ 140737488355328) :
    ∃ cap' W cur, (Builtin.append_ #[t, tn] ty #[.slice (some b) sLen sCap, .int kq k]).run P w = .ok (.slice (some ⟨w.heap.size, 0, none⟩) (sLen + k) cap') W ∧
      Row W e size w.heap.size cap' cur ∧ cur.take (sLen * size) = olds ∧ sLen + k ≤ cap' ∧ Below w.heap.size w W := by
  subst hsz
  have h63 : ((sLen + k : Nat) : Int) ≤ 9223372036854775807 := by simp only [maxLen] at hm; omega
  have hold : (Builtin.firstCells i.size sLen (.slice (some b) sLen sCap)).run P w.drew = .ok olds.toArray w.drew :=
    run_firstCells_some w.drew i.size sLen b sLen sCap olds hlo (fun j v hj => by simpa using holds j v hj)
  have h48 : k * i.bytes ≤ 281474976710656 := by have := Nat.mul_le_mul_right i.bytes (show k ≤ sLen + k by omega); omega
  have hr := Go.Lib.run_append_grow_zeros (P := P) w t tn ty e i z kq kn ht htn hi hz (some b) sLen sCap olds hold k h0 hs0 hg h63 h48 (growslice_fits hg hby)
  have hc1 := grownCap_ge w (sLen + k) sCap e
  have hc2 := grownCap_le_maxLen w (sLen + k) sCap e hm
  refine ⟨_, _, _, hr, row_new ?_ hc2, ?_, hc1, below_new _ _⟩
  · simp only [Array.size_append, List.size_toArray, size_zeroCells, hlo, hzs]
    rw [← Nat.add_mul, ← Nat.add_mul]
    congr 1
    omega
  · simp only [Array.toList_append, List.append_assoc]
    rw [List.take_append_of_le_length (by simp [hlo]), List.take_of_length_le (by simp [hlo])]

theorem splice_two_a {α : Type} {L X Y : List α} {p : Nat} (h : p + X.length + Y.length ≤ L.length) : (splice (splice L p X) (p + X.length) Y).take (p + X.length + Y.length) = L.take p ++ (X ++ Y) := by
  have e : (splice L p X).take (p + X.length) = L.take p ++ X := by
    unfold splice
    rw [← List.append_assoc, List.take_append_of_le_length (by simp; omega), List.take_of_length_le (by simp; omega)]
  show (List.take (p + X.length) (splice L p X) ++ (Y ++ _)).take _ = _
  rw [e, ← List.append_assoc, List.take_append_of_le_length (by simp; omega), List.take_of_length_le (by simp; omega), List.append_assoc]

theorem splice_two_b {α : Type} {L X Y : List α} {p : Nat} (h : p + X.length + Y.length ≤ L.length) : (splice (splice L (p + X.length) Y) p X).take (p + X.length + Y.length) = L.take p ++ (X ++ Y) := by
  have e1 : (splice L (p + X.length) Y).take p = L.take p := splice_take (by omega) (by omega)
  have e2 : (splice L (p + X.length) Y).drop (p + X.length) = Y ++ L.drop (p + X.length + Y.length) := by
    unfold splice
    rw [List.drop_append_of_le_length (by simp; omega), List.drop_of_length_le (by simp; omega), List.nil_append]
  show (List.take p (splice L (p + X.length) Y) ++ (X ++ List.drop (p + X.length) (splice L (p + X.length) Y))).take _ = _
  rw [e1, e2, ← List.append_assoc, ← List.append_assoc, List.take_append_of_le_length (by simp; omega), List.take_of_length_le (by simp; omega), List.append_assoc]

end Go.Proofs.Ytamkgakhgfhmjae.Kit
