/-
  OWN TEXTS, bundled: Sxs, SxT, Base, RefI, SxK, ZKit, ZPure, ZOvl.
-/
import Derived.Test.YtbjlbmofdnkmiaaPagesNewPart3
import Derived.Test.YtbjlbmofdnkmiaaChecked
import Derived.Test.YtbjlbmofdnkmiaaPagesNewPart1

/-
  OWN TEXT. Stores into blocks that are known cell by cell, results that lie in memory; over whatever program.
-/
namespace Go.Proofs.Ytbjlbmofdnkmiaa.Kit
open Go Go.RowKit

def over : List Value → List Value → List Value
  | cs, [] => cs
  | [], _ => []
  | _ :: cs, v :: vs => v :: over cs vs
def setL : List Value → Nat → List Value → List Value
  | cs, 0, vs => over cs vs
  | [], _ + 1, _ => []
  | c :: cs, o + 1, vs => c :: setL cs o vs
theorem over_eq : ∀ (cs vs : List Value), vs.length ≤ cs.length → over cs vs = vs ++ cs.drop vs.length
  | cs, [], _ => by cases cs <;> rfl
  | [], v :: vs, h => by simp at h
  | c :: cs, v :: vs, h => by simp [over, over_eq cs vs (by simpa using h)]
theorem setL_eq : ∀ (cs : List Value) (o : Nat) (vs : List Value), o + vs.length ≤ cs.length → setL cs o vs = cs.take o ++ vs ++ cs.drop (o + vs.length)
  | cs, 0, vs, h => by
    have e : setL cs 0 vs = over cs vs := by cases cs <;> rfl
    rw [e, over_eq cs vs (by omega)]; simp
  | [], o + 1, vs, h => by simp at h
  | c :: cs, o + 1, vs, h => by
    have := setL_eq cs o vs (by simp at h; omega)
    rw [setL, this]
    have e : o + 1 + vs.length = (o + vs.length) + 1 := by omega
    rw [e]; simp

theorem row_store {P : Program} {w : World} {b o : Nat} {cs vs : List Value} {t : TypeId} (hg : w.heap[b]? = some (.cells cs.toArray t (0, 0))) (hf : o + vs.length ≤ cs.length) (h1 : ∀ v ∈ vs, v.oneCell' = true) :
    ∃ W, (storeCells ⟨b, o, none⟩ vs 0).run P w = .ok () W ∧ But b w W ∧ W.heap[b]? = some (.cells (setL cs o vs).toArray t (0, 0)) := by
  have := run_storeCells_at (P := P) b o t vs 0 cs.toArray w hg (by simpa using hf) h1
  refine ⟨_, this, ⟨rfl, rfl, rfl, by simp [World.setRow], fun k _ hk => by simp [World.setRow, Array.getElem?_modify, Ne.symm hk]⟩, ?_⟩
  rw [setL_eq _ _ _ hf]
  simp [World.setRow, Array.getElem?_modify, hg]

def szB (P : Program) (t : TypeId) : Option Nat := (P.info? t).map (·.size)
section
variable {P : Program} {A : Act} {N : Nat} {L : List (Nat × Value)} {l rest : List Oper} {o : Oper} {w : World} {C : World → Prop} {Q : Exit → Act → World → Prop}
theorem store_run {t tt : TypeId} {x y : Operand} {b off n : Nat} {v : Value} {cs : List Value} (f : Fr A N L) (ho : o.op = .store t x y) (hx : ev L x = some (.pointer (some ⟨b, off, none⟩))) (hy : ev L y = some v)
    (hrow : w.heap[b]? = some (.cells cs.toArray tt (0, 0))) (hs : szB P t = some n) (hn : v.cells.size = n) (hf : off + n ≤ cs.length) (h1 : (v.cells.toList.all (·.oneCell')) = true) :
    ∃ W, (execOp A.eval o).run P w = .ok .skip W ∧ But b w W ∧ W.heap[b]? = some (.cells (setL cs off v.cells.toList).toArray tt (0, 0)) := by
  unfold szB at hs
  simp only [Option.map_eq_some_iff] at hs
  obtain ⟨i, hi, rfl⟩ := hs
  obtain ⟨W, hr, hb, hw⟩ := row_store (P := P) (vs := v.cells.toList) (o := off) hrow (Nat.le_trans (Nat.add_le_add_left (Nat.le_of_eq (by simpa using hn)) _) hf) (fun u hu => List.all_eq_true.1 h1 u hu)
  have hsv := run_storeVar' (a := ⟨b, off, none⟩) hi hn hr
  have e1 := f.ev hx
  have e2 := f.ev hy
  refine ⟨W, ?_, hb, hw⟩
  obtain ⟨ρ, hρ⟩ : ∃ ρ, A.eval = ρ := ⟨_, rfl⟩
  rw [hρ] at e1 e2 ⊢
  obtain ⟨s, hs⟩ : ∃ s, storeVar t ⟨b, off, none⟩ v = s := ⟨_, rfl⟩
  rw [hs] at hsv
  unfold execOp
  rw [ho]
  simp only
  unfold Instr.storeAt
  rw [e1, e2]
  show (do storeVar t ⟨b, off, none⟩ v; pure Next.skip : Sem Next).run P w = _
  rw [hs]
  simp [hsv, go_sem]
theorem l_store {t tt : TypeId} {x y : Operand} {b off n : Nat} {v : Value} {cs : List Value} (f : Fr A N L) (hd : o.dst = none) (hw : wantB l L o = some true) (ho : o.op = .store t x y) (hx : ev L x = some (.pointer (some ⟨b, off, none⟩))) (hy : ev L y = some v)
    (hrow : w.heap[b]? = some (.cells cs.toArray tt (0, 0))) (hs : szB P t = some n) (hn : v.cells.size = n) (hf : off + n ≤ cs.length) (h1 : (v.cells.toList.all (·.oneCell')) = true)
    (h : ∀ W, But b w W → W.heap[b]? = some (.cells (setL cs off v.cells.toList).toArray tt (0, 0)) → wpList P l.toArray Q rest A W) : wpList P l.toArray Q (o :: rest) A w := by
  obtain ⟨W, hr, hb, hw'⟩ := store_run (P := P) f ho hx hy hrow hs hn hf h1
  unfold wpList
  rw [if_pos (f.wanted hw)]
  left
  unfold Oper.wp
  rw [hr, Oper.upon_skip, hd]
  exact h W hb hw'
theorem h_store {S : World → Prop} {eff : List Nat} {k : Nat} {t tt : TypeId} {x y : Operand} {b off n : Nat} {v : Value} {cs : List Value} (f : Fr A N L) (he : memN eff k = true) (hd : o.dst = none) (hw : wantB l L o = some true) (ho : o.op = .store t x y) (hx : ev L x = some (.pointer (some ⟨b, off, none⟩))) (hy : ev L y = some v)
    (hrow : w.heap[b]? = some (.cells cs.toArray tt (0, 0))) (hs : szB P t = some n) (hn : v.cells.size = n) (hf : off + n ≤ cs.length) (h1 : (v.cells.toList.all (·.oneCell')) = true) (hS : ∀ W, But b w W → W.heap[b]? = some (.cells (setL cs off v.cells.toList).toArray tt (0, 0)) → S W)
    (h : ∀ W, But b w W → W.heap[b]? = some (.cells (setL cs off v.cells.toList).toArray tt (0, 0)) → wpHL P l Q S eff (k + 1) rest A W) : wpHL P l Q S eff k (o :: rest) A w := by
  obtain ⟨W, hr, hb, hw'⟩ := store_run (P := P) f ho hx hy hrow hs hn hf h1
  unfold wpHL
  rw [if_pos he, if_pos (f.wanted hw)]
  unfold Oper.wp
  rw [hr, Oper.upon_skip, hd]
  exact ⟨hS W hb hw', h W hb hw'⟩

theorem storeR_run {t : TypeId} {x y : Operand} {p : Addr} {v : Value} {R : World → Prop} (f : Fr A N L) (ho : o.op = .store t x y) (hx : ev L x = some (.pointer (some p))) (hy : ev L y = some v)
    (hr : ∃ W, (storeVar t p v).run P w = .ok () W ∧ R W) : ∃ W, (execOp A.eval o).run P w = .ok .skip W ∧ R W := by
  obtain ⟨W, hsv, hR⟩ := hr
  have e1 := f.ev hx
  have e2 := f.ev hy
  refine ⟨W, ?_, hR⟩
  obtain ⟨ρ, hρ⟩ : ∃ ρ, A.eval = ρ := ⟨_, rfl⟩
  rw [hρ] at e1 e2 ⊢
  obtain ⟨s, hs⟩ : ∃ s, storeVar t p v = s := ⟨_, rfl⟩
  rw [hs] at hsv
  unfold execOp
  rw [ho]
  simp only
  unfold Instr.storeAt
  rw [e1, e2]
  show (do storeVar t p v; pure Next.skip : Sem Next).run P w = _
  rw [hs]
  simp [hsv, go_sem]
/-- An operation by what it does. -/
theorem l_opR {d : Nat} {R : Value → World → Prop} (f : Fr A N L) (hd : o.dst = some d) (hN : Nat.blt d N = true) (hw : wantB l L o = some true) (hr : ∃ v W, (execOp A.eval o).run P w = .ok (.value v) W ∧ R v W)
    (h : ∀ v W, R v W → ∀ A', Fr A' N ((d, v) :: L) → wpList P l.toArray Q rest A' W) : wpList P l.toArray Q (o :: rest) A w := by
  obtain ⟨v, W, hrun, hR⟩ := hr
  unfold wpList
  rw [if_pos (f.wanted hw)]
  left
  unfold Oper.wp
  rw [hrun, Oper.upon_value, hd]
  exact h v W hR _ (f.put d v (by simpa [Nat.blt_eq] using hN))
theorem append_exec {s x : Operand} {t tn : TypeId} {vs vx v : Value} {W : World} (f : Fr A N L) (ho : o.op = .call ⟨.builtin .append, #[s, x], #[t, tn]⟩) (hs : ev L s = some vs) (hx : ev L x = some vx)
    (hr : (Builtin.append_ #[t, tn] o.type #[vs, vx]).run P w = .ok v W) : (execOp A.eval o).run P w = .ok (.value v) W := by
  have e1 := f.ev hs
  have e2 := f.ev hx
  unfold execOp
  simp only [ho, resolve, invoke, builtin, Sem.run_bind, Sem.run_pure, Result.andThen_ok, List.map_toArray, List.map_cons, List.map_nil, e1, e2, hr]
theorem bs_exec {t : TypeId} {n : Nat} {ps : List (Nat × Operand)} {vs : List (Nat × Value)} {v : Value} {W : World} (f : Fr A N L) (ho : o.op = .buildSlice t n ps.toArray) (hp : evp L ps = some vs)
    (hr : (Instr.buildSlice t n vs.toArray).run P w = .ok v W) : (execOp A.eval o).run P w = .ok (.value v) W := by
  have e := evp_map (fun x u hu => f.ev hu) hp
  have e' : ps.toArray.map (fun (i, x) => (i, A.eval x)) = vs.toArray := by simpa using congrArg List.toArray e
  obtain ⟨s, hs⟩ : ∃ s, Instr.buildSlice t n vs.toArray = s := ⟨_, rfl⟩
  rw [hs] at hr
  unfold execOp
  rw [ho]
  simp only
  rw [e', hs]
  simp [hr]
/-- A store by what it does. -/
theorem l_storeR {t : TypeId} {x y : Operand} {p : Addr} {v : Value} {R : World → Prop} (f : Fr A N L) (hd : o.dst = none) (hw : wantB l L o = some true) (ho : o.op = .store t x y) (hx : ev L x = some (.pointer (some p))) (hy : ev L y = some v)
    (hr : ∃ W, (storeVar t p v).run P w = .ok () W ∧ R W) (h : ∀ W, R W → wpList P l.toArray Q rest A W) : wpList P l.toArray Q (o :: rest) A w := by
  obtain ⟨W, hrun, hR⟩ := storeR_run (P := P) f ho hx hy hr
  unfold wpList
  rw [if_pos (f.wanted hw)]
  left
  unfold Oper.wp
  rw [hrun, Oper.upon_skip, hd]
  exact h W hR
theorem h_storeR {S : World → Prop} {eff : List Nat} {k : Nat} {t : TypeId} {x y : Operand} {p : Addr} {v : Value} {R : World → Prop} (f : Fr A N L) (he : memN eff k = true) (hd : o.dst = none) (hw : wantB l L o = some true) (ho : o.op = .store t x y) (hx : ev L x = some (.pointer (some p))) (hy : ev L y = some v)
    (hr : ∃ W, (storeVar t p v).run P w = .ok () W ∧ R W) (hS : ∀ W, R W → S W) (h : ∀ W, R W → wpHL P l Q S eff (k + 1) rest A W) : wpHL P l Q S eff k (o :: rest) A w := by
  obtain ⟨W, hrun, hR⟩ := storeR_run (P := P) f ho hx hy hr
  unfold wpHL
  rw [if_pos he, if_pos (f.wanted hw)]
  unfold Oper.wp
  rw [hrun, Oper.upon_skip, hd]
  exact ⟨hS W hR, h W hR⟩

/-- A cell of a block that is known. -/
theorem rowl {b j : Nat} {cs : List Value} {t : TypeId} {v : Value} (h : ∀ wx, C wx → wx.heap[b]? = some (.cells cs.toArray t (0, 0))) (hj : cs[j]? = some v) : StC C ⟨b, j, none⟩ v := fun wx hx => by
  rw [cell_of_row wx b j cs.toArray t (0, 0) (h wx hx)]; simpa using hj
theorem rowq {b : Nat} {cs : List Value} {t : TypeId} (h : w.heap[b]? = some (.cells cs.toArray t (0, 0))) : ∀ wx, ClB w wx → wx.heap[b]? = some (.cells cs.toArray t (0, 0)) := fun _ hx => row_next h hx
def matchL : List Value → List Value → Prop
  | _, [] => True
  | [], _ :: _ => False
  | c :: cs, v :: vs => c = v ∧ matchL cs vs
theorem rowls {b : Nat} {cs : List Value} {t : TypeId} (h : ∀ wx, C wx → wx.heap[b]? = some (.cells cs.toArray t (0, 0))) : ∀ (vs : List Value) (o : Nat), matchL (cs.drop o) vs → StsC C b o vs
  | [], _, _ => trivial
  | v :: vs, o, hm => by
    cases hd : cs.drop o with
    | nil => rw [hd] at hm; exact hm.elim
    | cons c r =>
      rw [hd] at hm
      have h0 : cs[o]? = some c := by
        have := congrArg (fun l => l[0]?) hd
        simpa using this
      refine ⟨rowl h (by rw [h0, hm.1]), rowls h vs (o + 1) ?_⟩
      have : cs.drop (o + 1) = r := by
        have := congrArg List.tail hd
        simpa using this
      rw [this]; exact hm.2
theorem But.row {b c : Nat} {w w' : World} {x : Obj} (h : But b w w') (hr : w.heap[c]? = some x) (hne : c ≠ b) : w'.heap[c]? = some x := by
  rw [h.block c (Array.getElem?_eq_some_iff.1 hr).1 hne]; exact hr
theorem row_lt {w : World} {c : Nat} {x : Obj} (hr : w.heap[c]? = some x) : c < w.heap.size := (Array.getElem?_eq_some_iff.1 hr).1
theorem Below.thenBut {b : Nat} {w0 w w' : World} (h : Below w0.heap.size w0 w) (hb : But b w w') (hle : w0.heap.size ≤ b) : Below w0.heap.size w0 w' := h.trans (hb.below hle h.size)
theorem y_nil {x : Operand} {p : Addr} (ho : o.op = .nilCheck x) (hx : ev L x = some (.pointer (some p))) : YC P C L o (.pointer (some p)) := by
  intro ρ hρ wx _
  simp [execOp, ho, hρ _ _ hx, go_sem]
theorem y_ext {x : Operand} {i : Nat} {vs : Array Value} {v : Value} (ho : o.op = .extract x i) (hx : ev L x = some (.tuple vs)) (hv : vs[i]? = some v) : YC P C L o v := by
  intro ρ hρ wx _
  simp [execOp, ho, hρ _ _ hx, Instr.extract, hv, go_sem]

/-! Results in memory. -/
theorem cell_run {t : TypeId} {b n : Nat} {cs : List Value} {tt : TypeId} (ht : isAggB P t = some (some n)) (hrow : w.heap[b]? = some (.cells cs.toArray tt (0, 0))) (hn : cs.length = n) : (loadVar t ⟨b, 0, none⟩).run P w = .ok (.agg cs.toArray) w := by
  have hcx := load_row (P := P) hrow (n := n) (by simpa using hn)
  unfold isAggB at ht
  cases hu : P.underlying t with
  | none => rw [hu] at ht; cases ht
  | some d =>
    rw [hu] at ht
    cases d with
    | struct fs =>
      simp only [Option.map_eq_some_iff, Option.some.injEq] at ht
      obtain ⟨inf, hi, e⟩ := ht
      subst e
      simp [loadVar, isAgg, run_under hu, run_size hi, loadCells, hcx, go_sem]
    | array m e =>
      simp only [Option.map_eq_some_iff, Option.some.injEq] at ht
      obtain ⟨inf, hi, e⟩ := ht
      subst e
      simp [loadVar, isAgg, run_under hu, run_size hi, loadCells, hcx, go_sem]
    | _ => simp at ht
theorem x_retc {fn : Func} {R : Ending → World → Prop} {t : Tmp} {ty tt : TypeId} {b n : Nat} {cs : List Value} (f : Fr A N L) (hr : fn.results = #[.cell t ty]) (hv : look L t = some (.pointer (some ⟨b, 0, none⟩))) (ht : isAggB P ty = some (some n)) (hrow : w.heap[b]? = some (.cells cs.toArray tt (0, 0))) (hn : cs.length = n)
    (h : R (.returned (.agg cs.toArray)) w) : bodyPost P fn R .ret A w := by
  refine ⟨f.defs, _, ?_, h⟩
  have e := f.at_ t _ hv
  rw [Array.getD_eq_getD_getElem?] at e
  have hl := cell_run ht hrow hn
  obtain ⟨s, hs⟩ : ∃ s, loadVar ty ⟨b, 0, none⟩ = s := ⟨_, rfl⟩
  rw [hs] at hl
  simp [results, hr, e, asAddr, hs, hl]
theorem x_retc1 {fn : Func} {R : Ending → World → Prop} {t u : Tmp} {ty tt : TypeId} {b n : Nat} {cs : List Value} {v : Value} (f : Fr A N L) (hr : fn.results = #[.cell t ty, .tmp u]) (hv : look L t = some (.pointer (some ⟨b, 0, none⟩))) (hu : look L u = some v) (ht : isAggB P ty = some (some n)) (hrow : w.heap[b]? = some (.cells cs.toArray tt (0, 0))) (hn : cs.length = n)
    (h : R (.returned (.tuple #[.agg cs.toArray, v])) w) : bodyPost P fn R .ret A w := by
  refine ⟨f.defs, _, ?_, h⟩
  have e := f.at_ t _ hv
  rw [Array.getD_eq_getD_getElem?] at e
  have e' := f.at_ u _ hu
  rw [Array.getD_eq_getD_getElem?] at e'
  have hl := cell_run ht hrow hn
  obtain ⟨s, hs⟩ : ∃ s, loadVar ty ⟨b, 0, none⟩ = s := ⟨_, rfl⟩
  rw [hs] at hl
  simp [results, hr, e, e', asAddr, hs, hl]
end
end Go.Proofs.Ytbjlbmofdnkmiaa.Kit

/-
  OWN TEXT. The layout of the program's types, as tables.
-/
namespace Go.Proofs.Ytbjlbmofdnkmiaa
open Go Go.RowKit Go.Proofs.Ytbjlbmofdnkmiaa.Kit

def tF : List (Nat × Nat) := [(112, 0), (113, 1), (114, 2), (115, 3), (128, 0), (129, 1), (130, 2), (131, 3), (208, 0), (209, 1), (224, 0), (225, 1), (288, 0), (304, 0), (432, 0), (433, 1), (434, 2), (435, 3), (436, 4), (448, 0), (449, 1), (450, 2), (451, 3), (452, 4), (656, 0), (657, 1), (672, 0), (673, 1), (688, 0), (689, 1), (690, 2), (691, 3), (704, 0), (705, 1), (706, 2), (707, 3), (896, 0), (897, 1), (898, 2), (899, 3), (912, 0), (913, 1), (914, 2), (915, 3), (992, 0), (993, 1), (994, 2), (1008, 0), (1009, 1), (1010, 2), (1328, 0), (1329, 1), (1344, 0), (1345, 1), (2032, 0), (2033, 1), (2034, 2), (2035, 3), (2048, 0), (2049, 1), (2050, 2), (2051, 3), (2240, 0), (2241, 1), (2242, 2), (2243, 3), (2244, 4), (2245, 5), (2246, 6), (2247, 7), (2248, 8), (2249, 9), (2250, 10), (2256, 0), (2257, 1), (2258, 2), (2259, 3), (2260, 4), (2261, 5), (2262, 6), (2263, 7), (2264, 8), (2265, 9), (2266, 10)]
def tE : List (Nat × Nat) := [(22, 2), (23, 4), (24, 1), (25, 4), (26, 3)]
def tA : List (Nat × Nat) := [(1, 0), (2, 0), (3, 0), (4, 0), (5, 0), (6, 0), (7, 5), (8, 5), (9, 0), (10, 0), (11, 0), (12, 0), (13, 3), (14, 3), (15, 0), (16, 0), (17, 0), (18, 2), (19, 2), (21, 0), (22, 0), (23, 0), (24, 0), (25, 0), (26, 0), (27, 6), (28, 6), (29, 0), (31, 0), (32, 0), (33, 0), (34, 0), (35, 0), (36, 0), (37, 0), (38, 0), (39, 0), (40, 0), (41, 3), (42, 3), (43, 5), (44, 5), (46, 0), (47, 0), (48, 0), (49, 0), (50, 0), (51, 0), (52, 0), (53, 0), (54, 0), (55, 0), (56, 5), (57, 5), (58, 0), (59, 0), (60, 0), (61, 0), (62, 4), (63, 4), (64, 0), (65, 0), (66, 0), (67, 0), (68, 0), (69, 0), (70, 0), (71, 0), (72, 0), (73, 0), (74, 0), (75, 0), (77, 0), (78, 0), (79, 0), (80, 0), (81, 0), (82, 0), (83, 3), (84, 3), (85, 0), (86, 0), (87, 0), (88, 0), (89, 0), (90, 0), (91, 257), (92, 257), (93, 0), (94, 0), (95, 0), (96, 0), (97, 0), (98, 0), (99, 0), (100, 0), (101, 0), (102, 0), (104, 0), (106, 0), (107, 0), (108, 0), (109, 0), (110, 0), (112, 0), (113, 0), (114, 0), (115, 0), (116, 0), (117, 0), (118, 0), (119, 0), (120, 0), (121, 0), (122, 0), (123, 0), (124, 0), (125, 0), (126, 0), (127, 5), (128, 5), (129, 1), (130, 1), (131, 1), (132, 0), (133, 0), (134, 0), (135, 0), (136, 0), (137, 0), (138, 0), (139, 0), (140, 12), (141, 12)]
def tS : List (Nat × Nat) := [(1, 1), (2, 1), (3, 1), (4, 1), (5, 1), (6, 1), (7, 4), (8, 4), (9, 1), (10, 1), (11, 1), (12, 1), (13, 2), (14, 2), (15, 1), (16, 1), (17, 1), (18, 1), (19, 1), (21, 1), (22, 1), (23, 1), (24, 1), (25, 1), (26, 1), (27, 5), (28, 5), (29, 1), (31, 1), (32, 1), (33, 1), (34, 1), (35, 1), (36, 1), (37, 1), (38, 1), (39, 1), (40, 1), (41, 2), (42, 2), (43, 4), (44, 4), (46, 1), (47, 1), (48, 1), (49, 1), (50, 1), (51, 1), (52, 1), (53, 1), (54, 1), (55, 1), (56, 4), (57, 4), (58, 1), (59, 1), (60, 1), (61, 1), (62, 3), (63, 3), (64, 1), (65, 1), (66, 1), (67, 1), (68, 1), (69, 1), (70, 1), (71, 1), (72, 1), (73, 1), (74, 1), (75, 1), (77, 1), (78, 1), (79, 1), (80, 1), (81, 1), (82, 1), (83, 2), (84, 2), (85, 1), (86, 1), (87, 1), (88, 1), (89, 1), (90, 1), (91, 256), (92, 256), (93, 1), (94, 1), (95, 1), (96, 1), (97, 1), (98, 1), (99, 1), (100, 1), (101, 1), (102, 1), (104, 1), (106, 1), (107, 1), (108, 1), (109, 1), (110, 1), (112, 1), (113, 1), (114, 1), (115, 1), (116, 1), (117, 1), (118, 1), (119, 1), (120, 1), (121, 1), (122, 1), (123, 1), (124, 1), (125, 1), (126, 1), (127, 4), (128, 4), (129, 0), (130, 0), (131, 0), (132, 1), (133, 1), (134, 1), (135, 1), (136, 1), (137, 1), (138, 1), (139, 1), (140, 11), (141, 11)]
def tP : List Nat := [3, 4, 5, 6, 7, 8, 9, 10, 11, 12, 13, 14, 15, 16, 17, 18, 19, 20, 21, 22, 23, 24, 25, 26, 27, 28, 29, 30, 31, 32, 33, 34, 35, 36, 37, 38, 39, 40, 41, 42, 43, 44, 45, 46, 47, 48, 49, 50, 51, 52, 53, 54, 55, 56, 57, 58, 59, 60, 61, 62, 63, 64, 65, 66, 67, 68, 69, 70, 71, 72, 73, 74, 75, 76, 77, 78, 79, 80, 81, 82, 83, 84, 85, 86, 87, 88, 89, 90, 91, 92, 93, 94, 95, 96, 97, 98, 99, 100, 101, 102, 103, 104, 105, 106, 108, 109, 111, 112, 113, 114, 115]
set_option maxRecDepth 10000 in
theorem tF_all : (tF.all fun p => fOff Try.prog (p.1 / 16) (p.1 % 16) == some p.2) = true := by kernel_rfl
set_option maxRecDepth 10000 in
theorem tE_all : (tE.all fun p => elSz Try.prog p.1 == some p.2) = true := by kernel_rfl
def aggN : Nat → Option Nat
  | 0 => none
  | n + 1 => some n
set_option maxRecDepth 10000 in
theorem tA_all : (tA.all fun p => isAggB Try.prog p.1 == some (aggN p.2)) = true := by kernel_rfl
set_option maxRecDepth 10000 in
theorem tP_all : (tP.all fun g => plainB Try.prog g) = true := by kernel_rfl

theorem fo {s i k : Nat} (h : lookN tF (s * 16 + i) = some k) (hi : Nat.blt i 16 = true := by rfl) : fOff Try.prog s i = some k := by
  have := List.all_eq_true.1 tF_all _ (lookN_mem h)
  have hi' : i < 16 := by simpa [Nat.blt_eq] using hi
  rw [show (s * 16 + i) / 16 = s by omega, show (s * 16 + i) % 16 = i by omega] at this
  simpa using this
theorem es {t k : Nat} (h : lookN tE t = some k) : elSz Try.prog t = some k := by
  simpa using List.all_eq_true.1 tE_all _ (lookN_mem h)
theorem ag {t k : Nat} {r : Option Nat} (h : lookN tA t = some k) (hr : aggN k = r := by rfl) : isAggB Try.prog t = some r := by
  subst hr
  simpa using List.all_eq_true.1 tA_all _ (lookN_mem h)
theorem sl {t k : Nat} (h : lookN tE t = some k) : isSl Try.prog t = true := by
  have := es h
  unfold elSz at this
  unfold isSl
  cases hu : Try.prog.underlying t with
  | none => rw [hu] at this; cases this
  | some d =>
    rw [hu] at this
    cases d <;> first | rfl | cases this
set_option maxRecDepth 10000 in
theorem tS_all : (tS.all fun p => szB Try.prog p.1 == some p.2) = true := by kernel_rfl
theorem sz {t k : Nat} (h : lookN tS t = some k) : szB Try.prog t = some k := by
  simpa using List.all_eq_true.1 tS_all _ (lookN_mem h)
theorem pl {g : Nat} (h : memN tP g = true) : Plain Try.prog g := Plain.of (List.all_eq_true.1 tP_all _ (memN_mem h))

end Go.Proofs.Ytbjlbmofdnkmiaa

/-
  OWN TEXT. Closed facts on the type int.
-/
namespace Go.Proofs.Ytbjlbmofdnkmiaa
open Go Go.RowKit Go.Proofs.Ytbjlbmofdnkmiaa.Kit

theorem info_int : (Try.prog.info? 3).map (fun i => (i.zero, i.size, i.bytes)) = some (some (.int .i64 0), 1, 8) := by kernel_rfl
theorem size_int : (Try.prog.info? 3).map (·.size) = some 1 := by kernel_rfl

end Go.Proofs.Ytbjlbmofdnkmiaa

/-
  OWN TEXT. Contract of the document's answer: In.
-/
namespace Go.Proofs.Ytbjlbmofdnkmiaa
open Go Go.RowKit Go.Proofs.Ytbjlbmofdnkmiaa.Kit

theorem in_any (n lo hi : Int) (w : World) :
    Calls Try.prog 25 #[.int .i64 n, .int .i64 lo, .int .i64 hi] w fun e w' => e = .returned (.bool (inB n lo hi)) ∧ w = w' := by
  by_cases h1 : lo ≤ n
  · by_cases h2 : n ≤ hi
    · have hI : Hid (inB n lo hi = true) := inB_t ⟨h1, h2⟩
      go_enter Try.func25, Try.ntmps25
      go_wp2
      go_ret
      exact ⟨ret_bool hI.out.symm, rfl⟩
    · have hI : Hid (inB n lo hi = false) := inB_f (by omega)
      go_enter Try.func25, Try.ntmps25
      go_wp2
      go_ret
      exact ⟨ret_bool hI.out.symm, rfl⟩
  · have hI : Hid (inB n lo hi = false) := inB_f (by omega)
    go_enter Try.func25, Try.ntmps25
    go_wp2
    go_ret
    exact ⟨ret_bool hI.out.symm, rfl⟩

end Go.Proofs.Ytbjlbmofdnkmiaa

/-
  OWN TEXT. Contracts in the form that Sx's laws ask.
-/
namespace Go.Proofs.Ytbjlbmofdnkmiaa
open Go Go.RowKit Go.Proofs.Ytbjlbmofdnkmiaa.Kit

theorem c_iff {g : FuncId} {args : Array Value} {w : World} {p : Prop} [Decidable p] (h : Calls Try.prog g args w fun e w' => RetIff e p ∧ Below w.heap.size w w') : Calls Try.prog g args w fun e w' => e = .returned (.bool (decide p)) ∧ Below w.heap.size w w' := by
  refine h.mono ?_
  rintro e w' ⟨⟨r, rfl, hr⟩, hb⟩
  refine ⟨?_, hb⟩
  congr 2
  cases r with
  | true => exact (decide_eq_true (hr.1 rfl)).symm
  | false => exact (decide_eq_false (fun hp => by have := hr.2 hp; cases this)).symm
theorem c_same {g : FuncId} {args : Array Value} {w : World} {v : Value} (h : Calls Try.prog g args w fun e w' => e = .returned v ∧ w = w') : Calls Try.prog g args w fun e w' => e = .returned v ∧ Below w.heap.size w w' := by
  refine h.mono ?_
  rintro e w' ⟨rfl, rfl⟩
  exact ⟨rfl, Below.refl _ _⟩
theorem in_c (n lo hi : Int) (w : World) : Calls Try.prog 25 #[.int .i64 n, .int .i64 lo, .int .i64 hi] w fun e w' => e = .returned (.bool (decide (lo ≤ n ∧ n ≤ hi))) ∧ Below w.heap.size w w' := c_same (in_any n lo hi w)

end Go.Proofs.Ytbjlbmofdnkmiaa

/-
  OWN TEXT. Slices of blocks (three numbers each) and zones over whatever program.
-/
namespace Go.Proofs.Ytbjlbmofdnkmiaa.Kit
open Go Go.RowKit

/-- A block: its place, its order, its type. -/
structure Bk where
  a : Int
  o : Int
  t : Int

/-- No block. -/
def Bk.zero : Bk := ⟨0, 0, 0⟩

/-- Blocks as cells. -/
def bvals : List Bk → List Value
  | [] => []
  | b :: l => Value.int .i64 b.a :: Value.int .i64 b.o :: Value.int .i64 b.t :: bvals l

theorem length_bvals (l : List Bk) : (bvals l).length = l.length * 3 := by
  induction l with
  | nil => rfl
  | cons r l ih => simp only [bvals, List.length_cons, ih]; omega
theorem bvals_append (l m : List Bk) : bvals (l ++ m) = bvals l ++ bvals m := by
  induction l with
  | nil => rfl
  | cons r l ih => simp [bvals, ih]
theorem bvals_0 (l : List Bk) (i : Nat) (h : i < l.length) : (bvals l)[i * 3]? = some (.int .i64 (l.getD i .zero).a) := by
  induction l generalizing i with
  | nil => simp at h
  | cons r l ih =>
    cases i with
    | zero => simp [bvals]
    | succ i =>
      have := ih i (by simpa using h)
      rw [Nat.succ_mul]
      simpa [bvals] using this
theorem bvals_1 (l : List Bk) (i : Nat) (h : i < l.length) : (bvals l)[i * 3 + 1]? = some (.int .i64 (l.getD i .zero).o) := by
  induction l generalizing i with
  | nil => simp at h
  | cons r l ih =>
    cases i with
    | zero => simp [bvals]
    | succ i =>
      have := ih i (by simpa using h)
      rw [Nat.succ_mul]
      simpa [bvals] using this
theorem bvals_2 (l : List Bk) (i : Nat) (h : i < l.length) : (bvals l)[i * 3 + 2]? = some (.int .i64 (l.getD i .zero).t) := by
  induction l generalizing i with
  | nil => simp at h
  | cons r l ih =>
    cases i with
    | zero => simp [bvals]
    | succ i =>
      have := ih i (by simpa using h)
      rw [Nat.succ_mul]
      simpa [bvals] using this
theorem bvals_oneCell (l : List Bk) : ∀ u ∈ bvals l, u.oneCell' = true := by
  induction l with
  | nil => intro u hu; simp [bvals] at hu
  | cons r l ih =>
    intro u hu
    simp only [bvals, List.mem_cons] at hu
    rcases hu with rfl | rfl | rfl | hu
    · rfl
    · rfl
    · rfl
    · exact ih u hu
theorem bvals_set2 (l : List Bk) (i : Nat) (x : Int) (h : i < l.length) : (bvals l).set (i * 3 + 2) (.int .i64 x) = bvals (l.set i ⟨(l.getD i .zero).a, (l.getD i .zero).o, x⟩) := by
  induction l generalizing i with
  | nil => simp at h
  | cons r l ih =>
    cases i with
    | zero => simp [bvals]
    | succ i =>
      have := ih i (by simpa using h)
      rw [Nat.succ_mul]
      simpa [bvals] using this

/-- The cells from 'ao' on hold the blocks 'l'. -/
def BlksAt (w : World) (ao : Option Addr) (l : List Bk) : Prop :=
  ∀ i, i < l.length → ∃ b off, ao = some ⟨b, off, none⟩ ∧ w.cell? ⟨b, off + i * 3, none⟩ = some (.int .i64 (l.getD i .zero).a) ∧ w.cell? ⟨b, off + i * 3 + 1, none⟩ = some (.int .i64 (l.getD i .zero).o) ∧ w.cell? ⟨b, off + i * 3 + 2, none⟩ = some (.int .i64 (l.getD i .zero).t)

theorem BlksAt.below {w w' : World} {ao : Option Addr} {l : List Bk} (h : BlksAt w ao l) (hb : Below w.heap.size w w') : BlksAt w' ao l := by
  intro i hi
  obtain ⟨b, off, ha, h1, h2, h3⟩ := h i hi
  exact ⟨b, off, ha, keep h1 hb, keep h2 hb, keep h3 hb⟩

theorem BlksAt.nil (w : World) (ao : Option Addr) : BlksAt w ao [] := fun i hi => absurd hi (by simp)

theorem blks_of_owns {w : World} {base : Nat} {e : TypeId} {ao : Option Addr} {n cap : Nat} {l : List Bk}
    (h : w.ownsRow base e 3 (.slice ao n cap) n (bvals l)) : BlksAt w ao l := by
  intro i hi
  have hl := h.1
  rw [length_bvals] at hl
  rcases h.2 with ⟨h', h0⟩ | ⟨g, cap', cur, h', _, hg, _, _, _, htake⟩
  · omega
  · simp only [Value.slice.injEq] at h'
    obtain ⟨rfl, _, rfl⟩ := h'
    refine ⟨g, 0, rfl, ?_, ?_, ?_⟩
    · rw [Nat.zero_add, h.cellAt (i * 3) (by omega), bvals_0 l i hi]
    · rw [Nat.zero_add, h.cellAt (i * 3 + 1) (by omega), bvals_1 l i hi]
    · rw [Nat.zero_add, h.cellAt (i * 3 + 2) (by omega), bvals_2 l i hi]

theorem bowns_len {w : World} {base : Nat} {e : TypeId} {v : Value} {n : Nat} {l : List Bk}
    (h : w.ownsRow base e 3 v n (bvals l)) : l.length = n := by have := h.1; rw [length_bvals] at this; omega

/-- The source of an append. -/
theorem bsrc_of {w : World} {ao : Option Addr} {l : List Bk} (h : BlksAt w ao l) (h0 : 0 < l.length) : ∃ ad, ao = some ad ∧ ∀ j v, (bvals l)[j]? = some v → w.cell? (ad.add j) = some v := by
  obtain ⟨b, off, rfl, _⟩ := h 0 h0
  refine ⟨_, rfl, fun j v hj => ?_⟩
  have hadd : (⟨b, off, none⟩ : Addr).add j = ⟨b, off + j, none⟩ := by unfold Addr.add; split <;> simp_all
  rw [hadd]
  have hlt : j < (bvals l).length := (List.getElem?_eq_some_iff.1 hj).1
  rw [length_bvals] at hlt
  obtain ⟨b', off', he, c1, c2, c3⟩ := h (j / 3) (by omega)
  simp only [Option.some.injEq, Addr.mk.injEq, and_true] at he
  obtain ⟨rfl, rfl⟩ := he
  rcases (show j % 3 = 0 ∨ j % 3 = 1 ∨ j % 3 = 2 by omega) with hm | hm | hm
  · have e1 : j = j / 3 * 3 := by omega
    rw [e1, bvals_0 l _ (by omega)] at hj
    rw [← e1] at c1
    rw [c1]; exact hj
  · have e1 : j = j / 3 * 3 + 1 := by omega
    rw [e1, bvals_1 l _ (by omega)] at hj
    have e2 : off + j / 3 * 3 + 1 = off + j := by omega
    rw [e2] at c2
    rw [c2]; exact hj
  · have e1 : j = j / 3 * 3 + 2 := by omega
    rw [e1, bvals_2 l _ (by omega)] at hj
    have e2 : off + j / 3 * 3 + 2 = off + j := by omega
    rw [e2] at c3
    rw [c3]; exact hj

/-- One block of a slice: its three cells, the numbers under names. -/
theorem BlksAt.at {w : World} {ao : Option Addr} {l : List Bk} (h : BlksAt w ao l) (k : Nat) (hk : k < l.length) : ∃ b off x y z, ao = some ⟨b, off, none⟩ ∧ w.cell? ⟨b, off + k * 3, none⟩ = some (.int .i64 x) ∧ w.cell? ⟨b, off + k * 3 + 1, none⟩ = some (.int .i64 y) ∧ w.cell? ⟨b, off + k * 3 + 2, none⟩ = some (.int .i64 z) ∧ Hid (l.getD k .zero = ⟨x, y, z⟩) := by
  obtain ⟨b, off, ha, h1, h2, h3⟩ := h k hk
  exact ⟨b, off, _, _, _, ha, h1, h2, h3, rfl⟩

theorem btake_snoc (l : List Bk) (k : Nat) (h : k < l.length) {x y z : Int} (hx : l.getD k .zero = ⟨x, y, z⟩) : bvals (l.take k) ++ [Value.int .i64 x, Value.int .i64 y, Value.int .i64 z] = bvals (l.take (k + 1)) := by
  rw [List.getD_eq_getElem?_getD, List.getElem?_eq_getElem h] at hx
  simp only [Option.getD_some] at hx
  rw [List.take_succ_eq_append_getElem h, bvals_append, hx]
  rfl

theorem take_getD (l : List Bk) (k : Nat) (h : k < l.length) {b : Bk} (hx : l.getD k .zero = b) : l.take (k + 1) = l.take k ++ [b] := by
  rw [List.getD_eq_getElem?_getD, List.getElem?_eq_getElem h] at hx
  simp only [Option.getD_some] at hx
  rw [List.take_succ_eq_append_getElem h, hx]

/-- A slice of blocks that can be read. -/
structure Blks (w : World) (ao : Option Addr) (n : Nat) (l : List Bk) : Prop where
  len : l.length = n
  reach : n * 24 ≤ 140737488351232
  at_ : BlksAt w ao l

/-- A slice of numbers that can be read. -/
structure Nums (w : World) (ao : Option Addr) (n : Nat) (l : List Int) : Prop where
  len : l.length = n
  reach : n * 8 ≤ 140737488351232
  at_ : IntsAt w ao l

theorem Blks.below {w w' : World} {ao : Option Addr} {n : Nat} {l : List Bk} (h : Blks w ao n l) (hb : Below w.heap.size w w') : Blks w' ao n l := ⟨h.len, h.reach, h.at_.below hb⟩
theorem Nums.below {w w' : World} {ao : Option Addr} {n : Nat} {l : List Int} (h : Nums w ao n l) (hb : Below w.heap.size w w') : Nums w' ao n l := ⟨h.len, h.reach, h.at_.below hb⟩
theorem Blks.nil (w : World) : Blks w none 0 [] := ⟨rfl, by omega, BlksAt.nil _ _⟩
theorem Nums.nil (w : World) : Nums w none 0 [] := ⟨rfl, by omega, IntsAt.nil _ _⟩

theorem But.blks {b n : Nat} {ao : Option Addr} {l : List Bk} {w w' : World} (h : But b w w') (hr : Blks w ao n l) (hne : ∀ a, ao = some a → a.block ≠ b) : Blks w' ao n l := by
  refine ⟨hr.len, hr.reach, fun i hi => ?_⟩
  obtain ⟨c, o, ha, h1, h2, h3⟩ := hr.at_ i hi
  exact ⟨c, o, ha, h.cell h1 (hne _ ha), h.cell h2 (hne _ ha), h.cell h3 (hne _ ha)⟩
theorem But.nums {b n : Nat} {ao : Option Addr} {l : List Int} {w w' : World} (h : But b w w') (hr : Nums w ao n l) (hne : ∀ a, ao = some a → a.block ≠ b) : Nums w' ao n l := by
  refine ⟨hr.len, hr.reach, fun i hi => ?_⟩
  obtain ⟨c, o, ha, h1⟩ := hr.at_ i hi
  exact ⟨c, o, ha, h.cell h1 (hne _ ha)⟩

/-- A zone, as plain numbers. -/
structure Zn where
  f : Int
  t : Int
  free : List Bk
  types : List Int

/-- A zone that can be read: its two lists. -/
structure ZnAt (w : World) (fo : Option Addr) (fn : Nat) (to_ : Option Addr) (tn : Nat) (z : Zn) : Prop where
  free : Blks w fo fn z.free
  types : Nums w to_ tn z.types

theorem ZnAt.below {w w' : World} {fo : Option Addr} {fn : Nat} {to_ : Option Addr} {tn : Nat} {z : Zn} (h : ZnAt w fo fn to_ tn z) (hb : Below w.heap.size w w') : ZnAt w' fo fn to_ tn z := ⟨h.free.below hb, h.types.below hb⟩
theorem But.zn {b : Nat} {w w' : World} {fo : Option Addr} {fn : Nat} {to_ : Option Addr} {tn : Nat} {z : Zn} (h : But b w w') (hz : ZnAt w fo fn to_ tn z) (h1 : ∀ a, fo = some a → a.block ≠ b) (h2 : ∀ a, to_ = some a → a.block ≠ b) : ZnAt w' fo fn to_ tn z := ⟨h.blks hz.free h1, h.nums hz.types h2⟩

/-- A zone as a value. -/
def zval (z : Zn) (fo : Option Addr) (fn fc : Nat) (to_ : Option Addr) (tn tc : Nat) : Value := .agg #[.int .i64 z.f, .int .i64 z.t, .slice fo fn fc, .slice to_ tn tc]

/-- A block of four cells that may be written. -/
structure Res4 (W : World) (b : Nat) : Prop where
  d0 : ∃ v, W.cell? ⟨b, 0, none⟩ = some v
  d1 : ∃ v, W.cell? ⟨b, 1, none⟩ = some v
  d2 : ∃ v, W.cell? ⟨b, 2, none⟩ = some v
  d3 : ∃ v, W.cell? ⟨b, 3, none⟩ = some v
  z0 : W.frozen? ⟨b, 0, none⟩ = false
  z1 : W.frozen? ⟨b, 1, none⟩ = false
  z2 : W.frozen? ⟨b, 2, none⟩ = false
  z3 : W.frozen? ⟨b, 3, none⟩ = false

theorem Res4.but {W W' : World} {b c : Nat} (h : Res4 W b) (hb : But c W W') (hne : b ≠ c) : Res4 W' b := by
  obtain ⟨⟨v0, e0⟩, ⟨v1, e1⟩, ⟨v2, e2⟩, ⟨v3, e3⟩, z0, z1, z2, z3⟩ := h
  have hbk := hb.block b (World.block_lt_of_cell? W _ e0) hne
  exact ⟨⟨v0, hb.cell e0 hne⟩, ⟨v1, hb.cell e1 hne⟩, ⟨v2, hb.cell e2 hne⟩, ⟨v3, hb.cell e3 hne⟩, (World.frozen?_of_block (a := ⟨b, 0, none⟩) hbk).trans z0, (World.frozen?_of_block (a := ⟨b, 1, none⟩) hbk).trans z1, (World.frozen?_of_block (a := ⟨b, 2, none⟩) hbk).trans z2, (World.frozen?_of_block (a := ⟨b, 3, none⟩) hbk).trans z3⟩

theorem Res4.below {W W' : World} {b : Nat} (h : Res4 W b) (hb : Below W.heap.size W W') : Res4 W' b := by
  obtain ⟨v0, e0⟩ := h.d0
  have hlt := World.block_lt_of_cell? W _ e0
  exact h.but (c := W'.heap.size) ⟨hb.os, hb.tape, hb.output, hb.size, fun k hk _ => hb.block k hk⟩ (by have := hb.size; dsimp only at hlt; omega)

/-- The world behind four stores into one block. -/
def set4 (W : World) (b : Nat) (x y u v : Value) : World := (((W.setCell ⟨b, 0, none⟩ x).setCell ⟨b, 1, none⟩ y).setCell ⟨b, 2, none⟩ u).setCell ⟨b, 3, none⟩ v

theorem but4 (W : World) (b : Nat) (x y u v : Value) : But b W ((((W.setCell ⟨b, 0, none⟩ x).setCell ⟨b, 1, none⟩ y).setCell ⟨b, 2, none⟩ u).setCell ⟨b, 3, none⟩ v) :=
  (((((But.refl b W).setCell x).setCell y).setCell u).setCell v)

theorem res4 {W : World} {b : Nat} (h : Res4 W b) (x y u v : Value) :
    ((((W.setCell ⟨b, 0, none⟩ x).setCell ⟨b, 1, none⟩ y).setCell ⟨b, 2, none⟩ u).setCell ⟨b, 3, none⟩ v).cell? ⟨b, 0, none⟩ = some x ∧
    ((((W.setCell ⟨b, 0, none⟩ x).setCell ⟨b, 1, none⟩ y).setCell ⟨b, 2, none⟩ u).setCell ⟨b, 3, none⟩ v).cell? ⟨b, 1, none⟩ = some y ∧
    ((((W.setCell ⟨b, 0, none⟩ x).setCell ⟨b, 1, none⟩ y).setCell ⟨b, 2, none⟩ u).setCell ⟨b, 3, none⟩ v).cell? ⟨b, 2, none⟩ = some u ∧
    ((((W.setCell ⟨b, 0, none⟩ x).setCell ⟨b, 1, none⟩ y).setCell ⟨b, 2, none⟩ u).setCell ⟨b, 3, none⟩ v).cell? ⟨b, 3, none⟩ = some v := by
  obtain ⟨v0, e0⟩ := h.d0
  obtain ⟨v1, e1⟩ := h.d1
  obtain ⟨v2, e2⟩ := h.d2
  obtain ⟨v3, e3⟩ := h.d3
  have o : ∀ (X : World) (i j : Nat) (r : Value), i ≠ j → (X.setCell ⟨b, i, none⟩ r).cell? ⟨b, j, none⟩ = X.cell? ⟨b, j, none⟩ := fun X i j r hij => World.cell?_setCell_other _ _ _ _ (by intro g; cases g; exact hij rfl)
  refine ⟨?_, ?_, ?_, ?_⟩
  · rw [o _ 3 0 _ (by decide), o _ 2 0 _ (by decide), o _ 1 0 _ (by decide)]
    exact World.cell?_setCell_same _ _ _ e0
  · rw [o _ 3 1 _ (by decide), o _ 2 1 _ (by decide)]
    exact World.cell?_setCell_same _ _ _ ((o _ 0 1 _ (by decide)).trans e1)
  · rw [o _ 3 2 _ (by decide)]
    exact World.cell?_setCell_same _ _ _ ((o _ 1 2 _ (by decide)).trans ((o _ 0 2 _ (by decide)).trans e2))
  · exact World.cell?_setCell_same _ _ _ ((o _ 2 3 _ (by decide)).trans ((o _ 1 3 _ (by decide)).trans ((o _ 0 3 _ (by decide)).trans e3)))

/-- A zone in a variable: its four cells, that may be written. -/
structure ZBox (W : World) (b : Nat) (x y u v : Value) : Prop where
  c0 : W.cell? ⟨b, 0, none⟩ = some x
  c1 : W.cell? ⟨b, 1, none⟩ = some y
  c2 : W.cell? ⟨b, 2, none⟩ = some u
  c3 : W.cell? ⟨b, 3, none⟩ = some v
  z0 : W.frozen? ⟨b, 0, none⟩ = false
  z1 : W.frozen? ⟨b, 1, none⟩ = false
  z2 : W.frozen? ⟨b, 2, none⟩ = false
  z3 : W.frozen? ⟨b, 3, none⟩ = false

theorem ZBox.res {W : World} {b : Nat} {x y u v : Value} (h : ZBox W b x y u v) : Res4 W b := ⟨⟨_, h.c0⟩, ⟨_, h.c1⟩, ⟨_, h.c2⟩, ⟨_, h.c3⟩, h.z0, h.z1, h.z2, h.z3⟩
theorem ZBox.lt {W : World} {b : Nat} {x y u v : Value} (h : ZBox W b x y u v) : b < W.heap.size := by
  have := World.block_lt_of_cell? W _ h.c0
  exact this
theorem ZBox.but {W W' : World} {b c : Nat} {x y u v : Value} (h : ZBox W b x y u v) (hb : But c W W') (hne : b ≠ c) : ZBox W' b x y u v := by
  have r := h.res.but hb hne
  exact ⟨hb.cell h.c0 hne, hb.cell h.c1 hne, hb.cell h.c2 hne, hb.cell h.c3 hne, r.z0, r.z1, r.z2, r.z3⟩
theorem ZBox.below {W W' : World} {b : Nat} {x y u v : Value} (h : ZBox W b x y u v) (hb : Below W.heap.size W W') : ZBox W' b x y u v := by
  have r := h.res.below hb
  exact ⟨keep h.c0 hb, keep h.c1 hb, keep h.c2 hb, keep h.c3 hb, r.z0, r.z1, r.z2, r.z3⟩
theorem zbox_new (W : World) (x y u v : Value) (t : TypeId) : ZBox (W.alloc (.cells #[x, y, u, v] t)) W.heap.size x y u v :=
  ⟨by simp, by simp, by simp, by simp, by simp, by simp, by simp, by simp⟩
theorem ZBox.set2 {W : World} {b : Nat} {x y u v : Value} (h : ZBox W b x y u v) (u' : Value) : ZBox (W.setCell ⟨b, 2, none⟩ u') b x y u' v := by
  have o : ∀ j : Nat, j ≠ 2 → (W.setCell ⟨b, 2, none⟩ u').cell? ⟨b, j, none⟩ = W.cell? ⟨b, j, none⟩ := fun j hj => World.cell?_setCell_other _ _ _ _ (by intro g; cases g; exact hj rfl)
  exact ⟨(o 0 (by decide)).trans h.c0, (o 1 (by decide)).trans h.c1, World.cell?_setCell_same _ _ _ h.c2, (o 3 (by decide)).trans h.c3, by simpa using h.z0, by simpa using h.z1, by simpa using h.z2, by simpa using h.z3⟩
theorem ZBox.set3 {W : World} {b : Nat} {x y u v : Value} (h : ZBox W b x y u v) (v' : Value) : ZBox (W.setCell ⟨b, 3, none⟩ v') b x y u v' := by
  have o : ∀ j : Nat, j ≠ 3 → (W.setCell ⟨b, 3, none⟩ v').cell? ⟨b, j, none⟩ = W.cell? ⟨b, j, none⟩ := fun j hj => World.cell?_setCell_other _ _ _ _ (by intro g; cases g; exact hj rfl)
  exact ⟨(o 0 (by decide)).trans h.c0, (o 1 (by decide)).trans h.c1, (o 2 (by decide)).trans h.c2, World.cell?_setCell_same _ _ _ h.c3, by simpa using h.z0, by simpa using h.z1, by simpa using h.z2, by simpa using h.z3⟩
theorem ZBox.set4 {W : World} {b : Nat} {x y u v : Value} (h : ZBox W b x y u v) (x' y' u' v' : Value) : ZBox ((((W.setCell ⟨b, 0, none⟩ x').setCell ⟨b, 1, none⟩ y').setCell ⟨b, 2, none⟩ u').setCell ⟨b, 3, none⟩ v') b x' y' u' v' := by
  obtain ⟨k0, k1, k2, k3⟩ := res4 h.res x' y' u' v'
  exact ⟨k0, k1, k2, k3, by simpa using h.z0, by simpa using h.z1, by simpa using h.z2, by simpa using h.z3⟩

theorem nums_of_owns {w : World} {base : Nat} {e : TypeId} {ao : Option Addr} {n cap : Nat} {l : List Int} (h : w.ownsRow base e 1 (.slice ao n cap) n (vals l)) (hr : n * 8 ≤ 140737488351232) : Nums w ao n l := ⟨owns_len h, hr, ints_of_owns h⟩
theorem blks_own {w : World} {base : Nat} {e : TypeId} {ao : Option Addr} {n cap : Nat} {l : List Bk} (h : w.ownsRow base e 3 (.slice ao n cap) n (bvals l)) (hr : n * 24 ≤ 140737488351232) : Blks w ao n l := ⟨bowns_len h, hr, blks_of_owns h⟩

/-- A zone in new memory is returned, and a code. -/
def RetZone (B : Nat) (w' : World) (z : Zn) (e : Ending) : Prop :=
  ∃ fo fn fc to_ tn tc, e = .returned (.tuple #[.agg #[.int .i64 z.f, .int .i64 z.t, .slice fo fn fc, .slice to_ tn tc], .int .i64 0]) ∧ ZnAt w' fo fn to_ tn z ∧ Fresh B fo ∧ Fresh B to_
/-- No zone is returned, and a code. -/
def RetNone (c : Int) (e : Ending) : Prop := e = .returned (.tuple #[.agg #[.int .i64 0, .int .i64 0, .slice none 0 0, .slice none 0 0], .int .i64 c])

theorem fresh_none (B : Nat) : Fresh B none := fun a ha => by cases ha
theorem Fresh.mono {B C : Nat} {ao : Option Addr} (h : Fresh B ao) (hc : C ≤ B) : Fresh C ao := fun a ha => Nat.le_trans hc (h a ha)

theorem ZBox.belowB {B : Nat} {W W' : World} {b : Nat} {x y u v : Value} (h : ZBox W b x y u v) (hb : Below B W W') (hlt : b < B) : ZBox W' b x y u v :=
  ⟨(hb.cell (p := ⟨b, 0, none⟩) hlt).trans h.c0, (hb.cell (p := ⟨b, 1, none⟩) hlt).trans h.c1, (hb.cell (p := ⟨b, 2, none⟩) hlt).trans h.c2, (hb.cell (p := ⟨b, 3, none⟩) hlt).trans h.c3, (hb.frozen (p := ⟨b, 0, none⟩) hlt).trans h.z0, (hb.frozen (p := ⟨b, 1, none⟩) hlt).trans h.z1, (hb.frozen (p := ⟨b, 2, none⟩) hlt).trans h.z2, (hb.frozen (p := ⟨b, 3, none⟩) hlt).trans h.z3⟩
theorem Res4.belowB {B : Nat} {W W' : World} {b : Nat} (h : Res4 W b) (hb : Below B W W') (hlt : b < B) : Res4 W' b := by
  obtain ⟨⟨v0, e0⟩, ⟨v1, e1⟩, ⟨v2, e2⟩, ⟨v3, e3⟩, z0, z1, z2, z3⟩ := h
  exact (ZBox.belowB ⟨e0, e1, e2, e3, z0, z1, z2, z3⟩ hb hlt).res

/-- The three cells of a block that has just been laid. -/
theorem cell_three_new (w : World) (a b c : Value) (t : TypeId) : ∀ j u, [a, b, c][j]? = some u → (w.alloc (.cells #[a, b, c] t)).cell? ((⟨w.heap.size, 0, none⟩ : Addr).add j) = some u := by
  intro j u hj
  match j, hj with
  | 0, hj => simp at hj; subst hj; simp [Addr.add]
  | 1, hj => simp at hj; subst hj; simp [Addr.add]
  | 2, hj => simp at hj; subst hj; simp [Addr.add]
  | j + 3, hj => simp at hj

end Go.Proofs.Ytbjlbmofdnkmiaa.Kit

/-
  OWN TEXT. Zones that may be, as plain mathematics.
-/
namespace Go.Proofs.Ytbjlbmofdnkmiaa.Kit

/-- A power of two. -/
def pw (n : Int) : Int := ((2 ^ n.toNat : Nat) : Int)
theorem pw_0 : pw 0 = 1 := rfl
theorem pw_1 : pw 1 = 2 := rfl
theorem pw_2 : pw 2 = 4 := rfl
theorem pw_3 : pw 3 = 8 := rfl
theorem pw_4 : pw 4 = 16 := rfl
theorem pw_nat (n : Nat) : pw (n : Int) = ((2 ^ n : Nat) : Int) := rfl
theorem pw_pos (n : Int) : 1 ≤ pw n := by
  unfold pw
  have := Nat.two_pow_pos n.toNat
  omega
/-- An order from 0 to 4. -/
def ordOk (o : Int) : Prop := 0 ≤ o ∧ o ≤ 4
theorem ord_cases {o : Int} (h : ordOk o) : (o = 0 ∧ pw o = 1) ∨ (o = 1 ∧ pw o = 2) ∨ (o = 2 ∧ pw o = 4) ∨ (o = 3 ∧ pw o = 8) ∨ (o = 4 ∧ pw o = 16) := by
  obtain ⟨h1, h2⟩ := h
  rcases (show o = 0 ∨ o = 1 ∨ o = 2 ∨ o = 3 ∨ o = 4 by omega) with rfl | rfl | rfl | rfl | rfl
  · exact Or.inl ⟨rfl, rfl⟩
  · exact Or.inr (Or.inl ⟨rfl, rfl⟩)
  · exact Or.inr (Or.inr (Or.inl ⟨rfl, rfl⟩))
  · exact Or.inr (Or.inr (Or.inr (Or.inl ⟨rfl, rfl⟩)))
  · exact Or.inr (Or.inr (Or.inr (Or.inr ⟨rfl, rfl⟩)))
theorem pw_le {o : Int} (h : ordOk o) : pw o ≤ 16 := by rcases ord_cases h with ⟨_, e⟩ | ⟨_, e⟩ | ⟨_, e⟩ | ⟨_, e⟩ | ⟨_, e⟩ <;> omega

/-- A block may be in a zone. -/
def blkIn (f t a o : Int) : Prop := ordOk o ∧ f ≤ a ∧ a ≤ t - 1 ∧ a % pw o = 0
/-- May a block be in the zone, decided. -/
def blkB (f t a o : Int) : Bool := inB o 0 4 && (inB a f (t - 1) && decide (a % pw o = 0))
theorem blkB_iff (f t a o : Int) : blkB f t a o = true ↔ blkIn f t a o := by
  unfold blkB blkIn ordOk
  simp only [Bool.and_eq_true, inB, decide_eq_true_eq]
  constructor
  · rintro ⟨h1, h2, h3⟩; exact ⟨h1, h2.1, h2.2, h3⟩
  · rintro ⟨h1, h2, h3, h4⟩; exact ⟨h1, ⟨h2, h3⟩, h4⟩

def typeOk (x : Int) : Prop := 0 ≤ x ∧ x ≤ 2
/-- Two blocks, the first one lower, are beside each other. -/
def besideP (p b : Bk) : Prop := b.o < 4 ∧ p.o = b.o ∧ p.a + pw b.o = b.a ∧ p.a % pw (b.o + 1) = 0

/-- Free blocks that may be, from lo on, behind pv. -/
def FreeOk (f t : Int) : Int → Option Bk → List Bk → Prop
  | _, _, [] => True
  | lo, pv, b :: l => blkIn f t b.a b.o ∧ typeOk b.t ∧ lo ≤ b.a ∧ (∀ p, pv = some p → ¬ besideP p b) ∧ FreeOk f t (b.a + pw b.o) (some b) l

/-- The last one, or what was before. -/
def lastOf : Option Bk → List Bk → Option Bk
  | pv, [] => pv
  | _, b :: l => lastOf (some b) l
/-- Where the next one may begin. -/
def lowOf : Int → List Bk → Int
  | lo, [] => lo
  | _, b :: l => lowOf (b.a + pw b.o) l

theorem lastOf_snoc (pv : Option Bk) (l : List Bk) (b : Bk) : lastOf pv (l ++ [b]) = some b := by
  induction l generalizing pv with
  | nil => rfl
  | cons a l ih => exact ih _
theorem lowOf_snoc (lo : Int) (l : List Bk) (b : Bk) : lowOf lo (l ++ [b]) = b.a + pw b.o := by
  induction l generalizing lo with
  | nil => rfl
  | cons a l ih => exact ih _

theorem freeOk_snoc (f t lo : Int) (pv : Option Bk) (l : List Bk) (b : Bk) : FreeOk f t lo pv (l ++ [b]) ↔ FreeOk f t lo pv l ∧ blkIn f t b.a b.o ∧ typeOk b.t ∧ lowOf lo l ≤ b.a ∧ ∀ p, lastOf pv l = some p → ¬ besideP p b := by
  induction l generalizing lo pv with
  | nil => simp [FreeOk, lowOf, lastOf]
  | cons a l ih =>
    show _ ∧ _ ∧ _ ∧ _ ∧ FreeOk f t (a.a + pw a.o) (some a) (l ++ [b]) ↔ (_ ∧ _ ∧ _ ∧ _ ∧ FreeOk f t (a.a + pw a.o) (some a) l) ∧ _ ∧ _ ∧ lowOf (a.a + pw a.o) l ≤ b.a ∧ ∀ p, lastOf (some a) l = some p → ¬ besideP p b
    rw [ih]
    constructor
    · rintro ⟨h1, h2, h3, h4, h5, h6⟩; exact ⟨⟨h1, h2, h3, h4, h5⟩, h6⟩
    · rintro ⟨⟨h1, h2, h3, h4, h5⟩, h6⟩; exact ⟨h1, h2, h3, h4, h5, h6⟩

theorem freeOk_left {f t lo : Int} {pv : Option Bk} {l m : List Bk} (h : FreeOk f t lo pv (l ++ m)) : FreeOk f t lo pv l := by
  induction l generalizing lo pv with
  | nil => trivial
  | cons a l ih => exact ⟨h.1, h.2.1, h.2.2.1, h.2.2.2.1, ih h.2.2.2.2⟩

/-- P3.1. -/
def newOk (f t : Int) : Prop := 0 ≤ f ∧ f ≤ t ∧ t ≤ 256 ∧ f % 16 = 0 ∧ t % 16 = 0

/-- A zone that may be. -/
structure ZMay (z : Zn) : Prop where
  new : newOk z.f z.t
  len : 8 * (z.types.length : Int) = z.t - z.f
  ty : ∀ i, i < z.types.length → typeOk (z.types.getD i 0)
  free : FreeOk z.f z.t z.f none z.free

/-- The types of a new zone. -/
def newTypes (f t : Int) : List Int := List.replicate ((t - f) / 8).toNat 1
def newZ (f t : Int) : Zn := ⟨f, t, [], newTypes f t⟩

/-- Pages in free blocks. -/
def freeN : List Bk → Int
  | [] => 0
  | b :: l => pw b.o + freeN l
theorem freeN_snoc (l : List Bk) (b : Bk) : freeN (l ++ [b]) = freeN l + pw b.o := by
  induction l with
  | nil => simp [freeN]
  | cons a l ih => simp only [List.cons_append, freeN, ih]; omega

/-- Free blocks hold no more pages than there are. -/
theorem freeN_le {f t lo : Int} {pv : Option Bk} {l : List Bk} (h : FreeOk f t lo pv l) (ht : t % 16 = 0) (hlo : lo ≤ t) : 0 ≤ freeN l ∧ freeN l ≤ t - lo := by
  induction l generalizing lo pv with
  | nil => simp only [freeN]; omega
  | cons a l ih =>
    obtain ⟨⟨h1, h2, h3, h4⟩, _, h6, _, h7⟩ := h
    have hle : a.a + pw a.o ≤ t := by
      rcases ord_cases h1 with ⟨_, e⟩ | ⟨_, e⟩ | ⟨_, e⟩ | ⟨_, e⟩ | ⟨_, e⟩ <;> rw [e] at h4 ⊢ <;> omega
    have := ih h7 hle
    have := pw_pos a.o
    simp only [freeN]
    omega

theorem freeOk_count {f t lo : Int} {pv : Option Bk} {l : List Bk} (h : FreeOk f t lo pv l) (ht : t % 16 = 0) (hlo : lo ≤ t) : (l.length : Int) ≤ t - lo := by
  have h1 := (freeN_le h ht hlo).2
  have h2 : (l.length : Int) ≤ freeN l := by
    clear h h1
    induction l with
    | nil => simp [freeN]
    | cons a l ih => simp only [freeN, List.length_cons]; have := pw_pos a.o; omega
  omega

theorem freeOk_at {f t lo : Int} {pv : Option Bk} {l : List Bk} (h : FreeOk f t lo pv l) {k : Nat} (hk : k < l.length) {b : Bk} (hb : l.getD k .zero = b) :
    blkIn f t b.a b.o ∧ typeOk b.t ∧ lowOf lo (l.take k) ≤ b.a ∧ ∀ p, lastOf pv (l.take k) = some p → ¬ besideP p b := by
  have h1 : FreeOk f t lo pv (l.take (k + 1)) := by rw [← List.take_append_drop (k + 1) l] at h; exact freeOk_left h
  rw [take_getD l k hk hb, freeOk_snoc] at h1
  exact h1.2

end Go.Proofs.Ytbjlbmofdnkmiaa.Kit

/-
  OWN TEXT. A block has a page in common with one of a list; what it is to be decided by a look at each.
-/
namespace Go.Proofs.Ytbjlbmofdnkmiaa.Kit

/-- Another block has a page of it. -/
def ovlP (l : List Bk) (a o : Int) : Prop := ∃ i, i < l.length ∧ (l.getD i .zero).a < a + pw o ∧ a < (l.getD i .zero).a + pw (l.getD i .zero).o

/-- One block has a page below E, and one above a. -/
def ovl1 (E a : Int) (b : Bk) : Bool := decide (b.a < E ∧ a < b.a + pw b.o)
theorem ovl_any (l : List Bk) (a o : Int) : l.any (ovl1 (a + pw o) a) = true ↔ ovlP l a o := by
  rw [List.any_eq_true]
  constructor
  · rintro ⟨x, hx, h⟩
    obtain ⟨i, hi, rfl⟩ := List.getElem_of_mem hx
    have := of_decide_eq_true h
    refine ⟨i, hi, ?_⟩
    rw [List.getD_eq_getElem?_getD, List.getElem?_eq_getElem hi]
    exact this
  · rintro ⟨i, hi, h⟩
    rw [List.getD_eq_getElem?_getD, List.getElem?_eq_getElem hi] at h
    exact ⟨l[i], List.getElem_mem _, decide_eq_true h⟩

end Go.Proofs.Ytbjlbmofdnkmiaa.Kit
