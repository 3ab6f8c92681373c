/-
  OWN TEXTS.
-/
import Derived.Test.YtjohdbiipeedkaaGreatDoorPart1
import Derived.Test.YtjohdbiipeedkaaGreatDoorChecked
import Derived.ProofKit
import Derived.ShutString
import Derived.ChangeOld
import Derived.SizedLaws
set_option maxRecDepth 10000
set_option maxHeartbeats 4000000
namespace Go.Proofs.YtjohdbiipeedkaaGreatDoor.Kit
open Go Go.RowKit
def over : List Value → List Value → List Value
 | cs, [] => cs
 | [], _ => []
 | _ :: cs, v :: vs => v :: over cs vs
def setL : List Value → Nat → List Value → List Value
 | cs, 0, vs => over cs vs
 | [], _ + 1, _ => []
 | c :: cs, o + 1, vs => c :: setL cs o vs
theorem over_eq : ∀ (cs vs : List Value), vs.length ≤ cs.length → over cs vs = vs ++ cs.drop vs.length
 | cs, [], _ => by cases cs <;> rfl
 | [], v :: vs, h => by simp at h
 | c :: cs, v :: vs, h => by simp [over, over_eq cs vs (by simpa using h)]
theorem setL_eq : ∀ (cs : List Value) (o : Nat) (vs : List Value), o + vs.length ≤ cs.length → setL cs o vs = cs.take o ++ vs ++ cs.drop (o + vs.length)
 | cs, 0, vs, h => by
  have e : setL cs 0 vs = over cs vs := by cases cs <;> rfl
  rw [e, over_eq cs vs (by omega)]; simp
 | [], o + 1, vs, h => by simp at h
 | c :: cs, o + 1, vs, h => by
  have := setL_eq cs o vs (by simp at h; omega)
  rw [setL, this]
  have e : o + 1 + vs.length = (o + vs.length) + 1 := by omega
  rw [e]; simp
theorem row_store {P : Program} {w : World} {b o : Nat} {cs vs : List Value} {t : TypeId} (hg : w.heap[b]? = some (.cells cs.toArray t (0, 0))) (hf : o + vs.length ≤ cs.length) (h1 : ∀ v ∈ vs, v.oneCell' = true) :
    ∃ W, (storeCells ⟨b, o, none⟩ vs 0).run P w = .ok () W ∧ But b w W ∧ W.heap[b]? = some (.cells (setL cs o vs).toArray t (0, 0)) := by
 have := run_storeCells_at (P := P) b o t vs 0 cs.toArray w hg (by simpa using hf) h1
 refine ⟨_, this, ⟨rfl, rfl, rfl, by simp [World.setRow], fun k _ hk => by simp [World.setRow, Array.getElem?_modify, Ne.symm hk]⟩, ?_⟩
 rw [setL_eq _ _ _ hf]
 simp [World.setRow, Array.getElem?_modify, hg]
def szB (P : Program) (t : TypeId) : Option Nat := (P.info? t).map (·.size)
section
variable {P : Program} {A : Act} {N : Nat} {L : List (Nat × Value)} {l rest : List Oper} {o : Oper} {w : World} {C : World → Prop} {Q : Exit → Act → World → Prop}
theorem store_run {t tt : TypeId} {x y : Operand} {b off n : Nat} {v : Value} {cs : List Value} (f : Fr A N L) (ho : o.op = .store t x y) (hx : ev L x = some (.pointer (some ⟨b, off, none⟩))) (hy : ev L y = some v)
    (hrow : w.heap[b]? = some (.cells cs.toArray tt (0, 0))) (hs : szB P t = some n) (hn : v.cells.size = n) (hf : off + n ≤ cs.length) (h1 : (v.cells.toList.all (·.oneCell')) = true) :
    ∃ W, (execOp A.eval o).run P w = .ok .skip W ∧ But b w W ∧ W.heap[b]? = some (.cells (setL cs off v.cells.toList).toArray tt (0, 0)) := by
 unfold szB at hs
 simp only [Option.map_eq_some_iff] at hs
 obtain ⟨i, hi, rfl⟩ := hs
 obtain ⟨W, hr, hb, hw⟩ := row_store (P := P) (vs := v.cells.toList) (o := off) hrow (Nat.le_trans (Nat.add_le_add_left (Nat.le_of_eq (by simpa using hn)) _) hf) (fun u hu => List.all_eq_true.1 h1 u hu)
 have hsv := run_storeVar' (a := ⟨b, off, none⟩) hi hn hr
 have e1 := f.ev hx
 have e2 := f.ev hy
 refine ⟨W, ?_, hb, hw⟩
 obtain ⟨ρ, hρ⟩ : ∃ ρ, A.eval = ρ := ⟨_, rfl⟩
 rw [hρ] at e1 e2 ⊢
 obtain ⟨s, hs⟩ : ∃ s, storeVar t ⟨b, off, none⟩ v = s := ⟨_, rfl⟩
 rw [hs] at hsv
 unfold execOp
 rw [ho]
 simp only
 unfold Instr.storeAt
 rw [e1, e2]
 show (do storeVar t ⟨b, off, none⟩ v; pure Next.skip : Sem Next).run P w = _
 rw [hs]
 simp [hsv, go_sem]
theorem l_store {t tt : TypeId} {x y : Operand} {b off n : Nat} {v : Value} {cs : List Value} (f : Fr A N L) (hd : o.dst = none) (hw : wantB l L o = some true) (ho : o.op = .store t x y) (hx : ev L x = some (.pointer (some ⟨b, off, none⟩))) (hy : ev L y = some v)
    (hrow : w.heap[b]? = some (.cells cs.toArray tt (0, 0))) (hs : szB P t = some n) (hn : v.cells.size = n) (hf : off + n ≤ cs.length) (h1 : (v.cells.toList.all (·.oneCell')) = true)
    (h : ∀ W, But b w W → W.heap[b]? = some (.cells (setL cs off v.cells.toList).toArray tt (0, 0)) → wpList P l.toArray Q rest A W) : wpList P l.toArray Q (o :: rest) A w := by
 obtain ⟨W, hr, hb, hw'⟩ := store_run (P := P) f ho hx hy hrow hs hn hf h1
 unfold wpList
 rw [if_pos (f.wanted hw)]
 left
 unfold Oper.wp
 rw [hr, Oper.upon_skip, hd]
 exact h W hb hw'
theorem storeR_run {t : TypeId} {x y : Operand} {p : Addr} {v : Value} {R : World → Prop} (f : Fr A N L) (ho : o.op = .store t x y) (hx : ev L x = some (.pointer (some p))) (hy : ev L y = some v)
    (hr : ∃ W, (storeVar t p v).run P w = .ok () W ∧ R W) : ∃ W, (execOp A.eval o).run P w = .ok .skip W ∧ R W := by
 obtain ⟨W, hsv, hR⟩ := hr
 have e1 := f.ev hx
 have e2 := f.ev hy
 refine ⟨W, ?_, hR⟩
 obtain ⟨ρ, hρ⟩ : ∃ ρ, A.eval = ρ := ⟨_, rfl⟩
 rw [hρ] at e1 e2 ⊢
 obtain ⟨s, hs⟩ : ∃ s, storeVar t p v = s := ⟨_, rfl⟩
 rw [hs] at hsv
 unfold execOp
 rw [ho]
 simp only
 unfold Instr.storeAt
 rw [e1, e2]
 show (do storeVar t p v; pure Next.skip : Sem Next).run P w = _
 rw [hs]
 simp [hsv, go_sem]
theorem l_opR {d : Nat} {R : Value → World → Prop} (f : Fr A N L) (hd : o.dst = some d) (hN : Nat.blt d N = true) (hw : wantB l L o = some true) (hr : ∃ v W, (execOp A.eval o).run P w = .ok (.value v) W ∧ R v W)
    (h : ∀ v W, R v W → ∀ A', Fr A' N ((d, v) :: L) → wpList P l.toArray Q rest A' W) : wpList P l.toArray Q (o :: rest) A w := by
 obtain ⟨v, W, hrun, hR⟩ := hr
 unfold wpList
 rw [if_pos (f.wanted hw)]
 left
 unfold Oper.wp
 rw [hrun, Oper.upon_value, hd]
 exact h v W hR _ (f.put d v (by simpa [Nat.blt_eq] using hN))
theorem append_exec {s x : Operand} {t tn : TypeId} {vs vx v : Value} {W : World} (f : Fr A N L) (ho : o.op = .call ⟨.builtin .append, #[s, x], #[t, tn]⟩) (hs : ev L s = some vs) (hx : ev L x = some vx)
    (hr : (Builtin.append_ #[t, tn] o.type #[vs, vx]).run P w = .ok v W) : (execOp A.eval o).run P w = .ok (.value v) W := by
 have e1 := f.ev hs
 have e2 := f.ev hx
 unfold execOp
 simp only [ho, resolve, invoke, builtin, Sem.run_bind, Sem.run_pure, Result.andThen_ok, List.map_toArray, List.map_cons, List.map_nil, e1, e2, hr]
theorem bs_exec {t : TypeId} {n : Nat} {ps : List (Nat × Operand)} {vs : List (Nat × Value)} {v : Value} {W : World} (f : Fr A N L) (ho : o.op = .buildSlice t n ps.toArray) (hp : evp L ps = some vs)
    (hr : (Instr.buildSlice t n vs.toArray).run P w = .ok v W) : (execOp A.eval o).run P w = .ok (.value v) W := by
 have e := evp_map (fun x u hu => f.ev hu) hp
 have e' : ps.toArray.map (fun (i, x) => (i, A.eval x)) = vs.toArray := by simpa using congrArg List.toArray e
 obtain ⟨s, hs⟩ : ∃ s, Instr.buildSlice t n vs.toArray = s := ⟨_, rfl⟩
 rw [hs] at hr
 unfold execOp
 rw [ho]
 simp only
 rw [e', hs]
 simp [hr]
theorem l_storeR {t : TypeId} {x y : Operand} {p : Addr} {v : Value} {R : World → Prop} (f : Fr A N L) (hd : o.dst = none) (hw : wantB l L o = some true) (ho : o.op = .store t x y) (hx : ev L x = some (.pointer (some p))) (hy : ev L y = some v)
    (hr : ∃ W, (storeVar t p v).run P w = .ok () W ∧ R W) (h : ∀ W, R W → wpList P l.toArray Q rest A W) : wpList P l.toArray Q (o :: rest) A w := by
 obtain ⟨W, hrun, hR⟩ := storeR_run (P := P) f ho hx hy hr
 unfold wpList
 rw [if_pos (f.wanted hw)]
 left
 unfold Oper.wp
 rw [hrun, Oper.upon_skip, hd]
 exact h W hR
theorem h_storeR {S : World → Prop} {eff : List Nat} {k : Nat} {t : TypeId} {x y : Operand} {p : Addr} {v : Value} {R : World → Prop} (f : Fr A N L) (he : memN eff k = true) (hd : o.dst = none) (hw : wantB l L o = some true) (ho : o.op = .store t x y) (hx : ev L x = some (.pointer (some p))) (hy : ev L y = some v)
    (hr : ∃ W, (storeVar t p v).run P w = .ok () W ∧ R W) (hS : ∀ W, R W → S W) (h : ∀ W, R W → wpHL P l Q S eff (k + 1) rest A W) : wpHL P l Q S eff k (o :: rest) A w := by
 obtain ⟨W, hrun, hR⟩ := storeR_run (P := P) f ho hx hy hr
 unfold wpHL
 rw [if_pos he, if_pos (f.wanted hw)]
 unfold Oper.wp
 rw [hrun, Oper.upon_skip, hd]
 exact ⟨hS W hR, h W hR⟩
theorem rowl {b j : Nat} {cs : List Value} {t : TypeId} {v : Value} (h : ∀ wx, C wx → wx.heap[b]? = some (.cells cs.toArray t (0, 0))) (hj : cs[j]? = some v) : StC C ⟨b, j, none⟩ v := fun wx hx => by
 rw [cell_of_row wx b j cs.toArray t (0, 0) (h wx hx)]; simpa using hj
theorem rowq {b : Nat} {cs : List Value} {t : TypeId} (h : w.heap[b]? = some (.cells cs.toArray t (0, 0))) : ∀ wx, ClB w wx → wx.heap[b]? = some (.cells cs.toArray t (0, 0)) := fun _ hx => row_next h hx
def matchL : List Value → List Value → Prop
 | _, [] => True
 | [], _ :: _ => False
 | c :: cs, v :: vs => c = v ∧ matchL cs vs
theorem rowls {b : Nat} {cs : List Value} {t : TypeId} (h : ∀ wx, C wx → wx.heap[b]? = some (.cells cs.toArray t (0, 0))) : ∀ (vs : List Value) (o : Nat), matchL (cs.drop o) vs → StsC C b o vs
 | [], _, _ => trivial
 | v :: vs, o, hm => by
  cases hd : cs.drop o with
  | nil => rw [hd] at hm; exact hm.elim
  | cons c r =>
   rw [hd] at hm
   have h0 : cs[o]? = some c := by
    have := congrArg (fun l => l[0]?) hd
    simpa using this
   refine ⟨rowl h (by rw [h0, hm.1]), rowls h vs (o + 1) ?_⟩
   have : cs.drop (o + 1) = r := by
    have := congrArg List.tail hd
    simpa using this
   rw [this]; exact hm.2
theorem But.row {b c : Nat} {w w' : World} {x : Obj} (h : But b w w') (hr : w.heap[c]? = some x) (hne : c ≠ b) : w'.heap[c]? = some x := by
 rw [h.block c (Array.getElem?_eq_some_iff.1 hr).1 hne]; exact hr
theorem row_lt {w : World} {c : Nat} {x : Obj} (hr : w.heap[c]? = some x) : c < w.heap.size := (Array.getElem?_eq_some_iff.1 hr).1
theorem Below.thenBut {b : Nat} {w0 w w' : World} (h : Below w0.heap.size w0 w) (hb : But b w w') (hle : w0.heap.size ≤ b) : Below w0.heap.size w0 w' := h.trans (hb.below hle h.size)
theorem y_nil {x : Operand} {p : Addr} (ho : o.op = .nilCheck x) (hx : ev L x = some (.pointer (some p))) : YC P C L o (.pointer (some p)) := by
 intro ρ hρ wx _
 simp [execOp, ho, hρ _ _ hx, go_sem]
theorem y_ext {x : Operand} {i : Nat} {vs : Array Value} {v : Value} (ho : o.op = .extract x i) (hx : ev L x = some (.tuple vs)) (hv : vs[i]? = some v) : YC P C L o v := by
 intro ρ hρ wx _
 simp [execOp, ho, hρ _ _ hx, Instr.extract, hv, go_sem]
theorem cell_run {t : TypeId} {b n : Nat} {cs : List Value} {tt : TypeId} (ht : isAggB P t = some (some n)) (hrow : w.heap[b]? = some (.cells cs.toArray tt (0, 0))) (hn : cs.length = n) : (loadVar t ⟨b, 0, none⟩).run P w = .ok (.agg cs.toArray) w := by
 have hcx := load_row (P := P) hrow (n := n) (by simpa using hn)
 unfold isAggB at ht
 cases hu : P.underlying t with
 | none => rw [hu] at ht; cases ht
 | some d =>
  rw [hu] at ht
  cases d with
  | struct fs =>
   simp only [Option.map_eq_some_iff, Option.some.injEq] at ht
   obtain ⟨inf, hi, e⟩ := ht
   subst e
   simp [loadVar, isAgg, run_under hu, run_size hi, loadCells, hcx, go_sem]
  | array m e =>
   simp only [Option.map_eq_some_iff, Option.some.injEq] at ht
   obtain ⟨inf, hi, e⟩ := ht
   subst e
   simp [loadVar, isAgg, run_under hu, run_size hi, loadCells, hcx, go_sem]
  | _ => simp at ht
theorem x_retc {fn : Func} {R : Ending → World → Prop} {t : Tmp} {ty tt : TypeId} {b n : Nat} {cs : List Value} (f : Fr A N L) (hr : fn.results = #[.cell t ty]) (hv : look L t = some (.pointer (some ⟨b, 0, none⟩))) (ht : isAggB P ty = some (some n)) (hrow : w.heap[b]? = some (.cells cs.toArray tt (0, 0))) (hn : cs.length = n)
    (h : R (.returned (.agg cs.toArray)) w) : bodyPost P fn R .ret A w := by
 refine ⟨f.defs, _, ?_, h⟩
 have e := f.at_ t _ hv
 rw [Array.getD_eq_getD_getElem?] at e
 have hl := cell_run ht hrow hn
 obtain ⟨s, hs⟩ : ∃ s, loadVar ty ⟨b, 0, none⟩ = s := ⟨_, rfl⟩
 rw [hs] at hl
 simp [results, hr, e, asAddr, hs, hl]
theorem x_retc1 {fn : Func} {R : Ending → World → Prop} {t u : Tmp} {ty tt : TypeId} {b n : Nat} {cs : List Value} {v : Value} (f : Fr A N L) (hr : fn.results = #[.cell t ty, .tmp u]) (hv : look L t = some (.pointer (some ⟨b, 0, none⟩))) (hu : look L u = some v) (ht : isAggB P ty = some (some n)) (hrow : w.heap[b]? = some (.cells cs.toArray tt (0, 0))) (hn : cs.length = n)
    (h : R (.returned (.tuple #[.agg cs.toArray, v])) w) : bodyPost P fn R .ret A w := by
 refine ⟨f.defs, _, ?_, h⟩
 have e := f.at_ t _ hv
 rw [Array.getD_eq_getD_getElem?] at e
 have e' := f.at_ u _ hu
 rw [Array.getD_eq_getD_getElem?] at e'
 have hl := cell_run ht hrow hn
 obtain ⟨s, hs⟩ : ∃ s, loadVar ty ⟨b, 0, none⟩ = s := ⟨_, rfl⟩
 rw [hs] at hl
 simp [results, hr, e, e', asAddr, hs, hl]
end
end Go.Proofs.YtjohdbiipeedkaaGreatDoor.Kit
namespace Go.Proofs.YtjohdbiipeedkaaGreatDoor
open Go Go.RowKit Go.Proofs.YtjohdbiipeedkaaGreatDoor.Kit
def tF : List (Nat × Nat) := [(112, 0), (113, 1), (114, 2), (115, 3), (128, 0), (129, 1), (130, 2), (131, 3), (208, 0), (209, 1), (224, 0), (225, 1), (288, 0), (304, 0), (384, 0), (385, 1), (400, 0), (401, 1), (416, 0), (417, 2), (418, 3), (419, 4), (432, 0), (433, 2), (434, 3), (435, 4), (528, 0), (529, 1), (530, 2), (531, 3), (532, 4), (544, 0), (545, 1), (546, 2), (547, 3), (548, 4), (624, 0), (625, 1), (626, 2), (640, 0), (641, 1), (642, 2), (736, 0), (737, 1), (752, 0), (753, 1), (848, 0), (849, 1), (850, 2), (851, 3), (864, 0), (865, 1), (866, 2), (867, 3), (1008, 0), (1009, 1), (1010, 2), (1011, 3), (1024, 0), (1025, 1), (1026, 2), (1027, 3), (1088, 0), (1089, 1), (1090, 2), (1091, 3), (1104, 0), (1105, 1), (1106, 2), (1107, 3), (1376, 0), (1377, 1), (1378, 2), (1392, 0), (1393, 1), (1394, 2), (2464, 0), (2465, 1), (2466, 2), (2467, 3), (2480, 0), (2481, 1), (2482, 2), (2483, 3), (2656, 0), (2657, 1), (2658, 2), (2659, 3), (2660, 4), (2661, 5), (2662, 6), (2663, 7), (2664, 8), (2665, 9), (2666, 10), (2672, 0), (2673, 1), (2674, 2), (2675, 3), (2676, 4), (2677, 5), (2678, 6), (2679, 7), (2680, 8), (2681, 9), (2682, 10)]
def tE : List (Nat × Nat) := [(22, 4), (23, 2), (29, 4), (30, 1), (31, 4), (32, 3)]
def tA : List (Nat × Nat) := [(1, 0), (2, 0), (3, 0), (4, 0), (5, 0), (6, 0), (7, 5), (8, 5), (9, 0), (10, 0), (11, 0), (12, 0), (13, 3), (14, 3), (15, 0), (16, 0), (17, 0), (18, 2), (19, 2), (21, 0), (22, 0), (23, 0), (24, 3), (25, 3), (26, 6), (27, 6), (28, 0), (29, 0), (30, 0), (31, 0), (32, 0), (33, 6), (34, 6), (36, 0), (38, 0), (39, 4), (40, 4), (41, 0), (42, 0), (43, 0), (44, 257), (45, 0), (46, 3), (47, 3), (48, 0), (49, 0), (51, 0), (52, 0), (53, 5), (54, 5), (55, 0), (56, 0), (57, 0), (59, 0), (60, 0), (61, 0), (62, 0), (63, 5), (64, 5), (65, 0), (67, 0), (68, 5), (69, 5), (71, 0), (72, 0), (73, 0), (74, 0), (75, 0), (76, 0), (77, 0), (78, 0), (79, 0), (80, 0), (81, 0), (82, 0), (83, 0), (84, 0), (85, 0), (86, 4), (87, 4), (89, 0), (90, 0), (91, 0), (92, 0), (93, 0), (94, 257), (95, 0), (96, 0), (98, 0), (99, 0), (100, 0), (101, 257), (102, 0), (103, 0), (104, 0), (105, 0), (106, 0), (107, 0), (108, 0), (109, 0), (110, 0), (111, 0), (112, 0), (113, 0), (114, 0), (115, 0), (116, 0), (117, 0), (118, 0), (119, 0), (120, 0), (121, 0), (122, 0), (123, 0), (124, 0), (126, 0), (127, 0), (128, 0), (129, 0), (130, 0), (131, 0), (132, 0), (133, 0), (134, 0), (135, 0), (136, 0), (137, 0), (138, 0), (139, 0), (140, 0), (141, 0), (142, 0), (143, 0), (144, 0), (145, 0), (146, 0), (147, 3), (148, 7), (149, 0), (150, 0), (151, 0), (152, 0), (153, 0), (154, 5), (155, 5), (156, 1), (157, 1), (158, 1), (159, 0), (160, 0), (161, 0), (162, 0), (163, 0), (164, 0), (165, 0), (166, 12), (167, 12)]
def tS : List (Nat × Nat) := [(1, 1), (2, 1), (3, 1), (4, 1), (5, 1), (6, 1), (7, 4), (8, 4), (9, 1), (10, 1), (11, 1), (12, 1), (13, 2), (14, 2), (15, 1), (16, 1), (17, 1), (18, 1), (19, 1), (21, 1), (22, 1), (23, 1), (24, 2), (25, 2), (26, 5), (27, 5), (28, 1), (29, 1), (30, 1), (31, 1), (32, 1), (33, 5), (34, 5), (36, 1), (38, 1), (39, 3), (40, 3), (41, 1), (42, 1), (43, 1), (44, 256), (45, 1), (46, 2), (47, 2), (48, 1), (49, 1), (51, 1), (52, 1), (53, 4), (54, 4), (55, 1), (56, 1), (57, 1), (59, 1), (60, 1), (61, 1), (62, 1), (63, 4), (64, 4), (65, 1), (67, 1), (68, 4), (69, 4), (71, 1), (72, 1), (73, 1), (74, 1), (75, 1), (76, 1), (77, 1), (78, 1), (79, 1), (80, 1), (81, 1), (82, 1), (83, 1), (84, 1), (85, 1), (86, 3), (87, 3), (89, 1), (90, 1), (91, 1), (92, 1), (93, 1), (94, 256), (95, 1), (96, 1), (98, 1), (99, 1), (100, 1), (101, 256), (102, 1), (103, 1), (104, 1), (105, 1), (106, 1), (107, 1), (108, 1), (109, 1), (110, 1), (111, 1), (112, 1), (113, 1), (114, 1), (115, 1), (116, 1), (117, 1), (118, 1), (119, 1), (120, 1), (121, 1), (122, 1), (123, 1), (124, 1), (126, 1), (127, 1), (128, 1), (129, 1), (130, 1), (131, 1), (132, 1), (133, 1), (134, 1), (135, 1), (136, 1), (137, 1), (138, 1), (139, 1), (140, 1), (141, 1), (142, 1), (143, 1), (144, 1), (145, 1), (146, 1), (147, 2), (148, 6), (149, 1), (150, 1), (151, 1), (152, 1), (153, 1), (154, 4), (155, 4), (156, 0), (157, 0), (158, 0), (159, 1), (160, 1), (161, 1), (162, 1), (163, 1), (164, 1), (165, 1), (166, 11), (167, 11)]
def tP : List Nat := [3, 4, 5, 6, 7, 8, 9, 10, 11, 12, 13, 14, 15, 16, 17, 18, 19, 20, 21, 22, 23, 24, 25, 26, 27, 28, 29, 30, 31, 32, 33, 34, 35, 36, 37, 38, 39, 40, 41, 42, 43, 44, 45, 46, 47, 48, 49, 50, 51, 52, 53, 54, 55, 56, 57, 58, 59, 60, 61, 62, 63, 64, 65, 66, 67, 68, 69, 70, 71, 72, 73, 74, 75, 76, 77, 78, 79, 80, 81, 82, 83, 84, 85, 86, 87, 88, 89, 90, 92, 93, 94, 95, 96, 97, 98, 99, 100, 101, 102, 103, 104, 105, 106, 107, 108, 109, 110, 111, 112, 113, 114, 115, 117, 118, 119, 120, 121, 122, 123, 124]
theorem tF_all : (tF.all fun p => fOff Tryz.prog (p.1 / 16) (p.1 % 16) == some p.2) = true := by kernel_rfl
theorem tE_all : (tE.all fun p => elSz Tryz.prog p.1 == some p.2) = true := by kernel_rfl
def aggN : Nat → Option Nat
 | 0 => none
 | n + 1 => some n
theorem tA_all : (tA.all fun p => isAggB Tryz.prog p.1 == some (aggN p.2)) = true := by kernel_rfl
theorem tP_all : (tP.all fun g => plainB Tryz.prog g) = true := by kernel_rfl
theorem fo {s i k : Nat} (h : lookN tF (s * 16 + i) = some k) (hi : Nat.blt i 16 = true := by rfl) : fOff Tryz.prog s i = some k := by
 have := List.all_eq_true.1 tF_all _ (lookN_mem h)
 have hi' : i < 16 := by simpa [Nat.blt_eq] using hi
 rw [show (s * 16 + i) / 16 = s by omega, show (s * 16 + i) % 16 = i by omega] at this
 simpa using this
theorem es {t k : Nat} (h : lookN tE t = some k) : elSz Tryz.prog t = some k := by
 simpa using List.all_eq_true.1 tE_all _ (lookN_mem h)
theorem ag {t k : Nat} {r : Option Nat} (h : lookN tA t = some k) (hr : aggN k = r := by rfl) : isAggB Tryz.prog t = some r := by
 subst hr
 simpa using List.all_eq_true.1 tA_all _ (lookN_mem h)
theorem sl {t k : Nat} (h : lookN tE t = some k) : isSl Tryz.prog t = true := by
 have := es h
 unfold elSz at this
 unfold isSl
 cases hu : Tryz.prog.underlying t with
 | none => rw [hu] at this; cases this
 | some d =>
  rw [hu] at this
  cases d <;> first | rfl | cases this
theorem tS_all : (tS.all fun p => szB Tryz.prog p.1 == some p.2) = true := by kernel_rfl
theorem sz {t k : Nat} (h : lookN tS t = some k) : szB Tryz.prog t = some k := by
 simpa using List.all_eq_true.1 tS_all _ (lookN_mem h)
theorem pl {g : Nat} (h : memN tP g = true) : Plain Tryz.prog g := Plain.of (List.all_eq_true.1 tP_all _ (memN_mem h))
theorem c_same {g : FuncId} {args : Array Value} {w : World} {v : Value} (h : Calls Tryz.prog g args w fun e w' => e = .returned v ∧ w = w') : Calls Tryz.prog g args w fun e w' => e = .returned v ∧ Below w.heap.size w w' := by
 refine h.mono ?_
 rintro e w' ⟨rfl, rfl⟩
 exact ⟨rfl, Below.refl _ _⟩
section
variable {A : Act} {N d : Nat} {v : Value} {L : List (Nat × Value)} {l rest : List Oper} {o : Oper} {w : World} {C S : World → Prop} {Q : Exit → Act → World → Prop} {Z : Act → Prop} {eff : List Nat} {k : Nat} {x y z : Operand} {t u : TypeId}
theorem vlm (ho : o.op = .move x := by exact rfl) (hx : ev L x = some v := by exact rfl) (hd : o.dst = some d := by exact rfl) (hN : Nat.blt d N = true := by exact rfl) (hw : wantB l L o = some true := by exact rfl) (h : ∀ A, Fr A N ((d, v) :: L) → wpList Tryz.prog l.toArray Q rest A w) (A : Act) (f : Fr A N L) : wpList Tryz.prog l.toArray Q (o :: rest) A w := l_do f hd hN hw (y_move ho hx) (h)
theorem vla (ho : o.op = .assign x := by exact rfl) (hx : ev L x = some v := by exact rfl) (hd : o.dst = some d := by exact rfl) (hN : Nat.blt d N = true := by exact rfl) (hw : wantB l L o = some true := by exact rfl) (h : ∀ A, Fr A N ((d, v) :: L) → wpList Tryz.prog l.toArray Q rest A w) (A : Act) (f : Fr A N L) : wpList Tryz.prog l.toArray Q (o :: rest) A w := l_do f hd hN hw (y_assign ho hx) (h)
theorem vlf {s : TypeId} {i j b off : Nat} (ho : o.op = .fieldAddr s x i := by exact rfl) (hx : ev L x = some (.pointer (some ⟨b, off, none⟩)) := by exact rfl) (h1 : lookN tF (s * 16 + i) = some j := by exact rfl) (h2 : Nat.blt i 16 = true := by exact rfl) (hd : o.dst = some d := by exact rfl) (hN : Nat.blt d N = true := by exact rfl) (hw : wantB l L o = some true := by exact rfl) (h : ∀ A, Fr A N ((d, .pointer (some ⟨b, off + j, none⟩)) :: L) → wpList Tryz.prog l.toArray Q rest A w) (A : Act) (f : Fr A N L) : wpList Tryz.prog l.toArray Q (o :: rest) A w := l_do f hd hN hw (y_field ho hx (fo h1 h2)) (h)
theorem vlp {c : Bool} (ho : o.op = .pick x y z := by exact rfl) (hx : ev L x = some (.bool c) := by exact rfl) (hy : (bif c then ev L y else ev L z) = some v := by exact rfl) (hd : o.dst = some d := by exact rfl) (hN : Nat.blt d N = true := by exact rfl) (hw : wantB l L o = some true := by exact rfl) (h : ∀ A, Fr A N ((d, v) :: L) → wpList Tryz.prog l.toArray Q rest A w) (A : Act) (f : Fr A N L) : wpList Tryz.prog l.toArray Q (o :: rest) A w := l_do f hd hN hw (y_pick ho hx hy) (h)
theorem vle {i : Nat} {vs : Array Value} (ho : o.op = .extract x i := by exact rfl) (hx : ev L x = some (.tuple vs) := by exact rfl) (hy : vs[i]? = some v := by exact rfl) (hd : o.dst = some d := by exact rfl) (hN : Nat.blt d N = true := by exact rfl) (hw : wantB l L o = some true := by exact rfl) (h : ∀ A, Fr A N ((d, v) :: L) → wpList Tryz.prog l.toArray Q rest A w) (A : Act) (f : Fr A N L) : wpList Tryz.prog l.toArray Q (o :: rest) A w := l_do f hd hN hw (y_ext ho hx hy) (h)
theorem vln {b : Bool} (ho : o.op = .unOp .not t x := by exact rfl) (hx : ev L x = some (.bool b) := by exact rfl) (hd : o.dst = some d := by exact rfl) (hN : Nat.blt d N = true := by exact rfl) (hw : wantB l L o = some true := by exact rfl) (h : ∀ A, Fr A N ((d, .bool (!b)) :: L) → wpList Tryz.prog l.toArray Q rest A w) (A : Act) (f : Fr A N L) : wpList Tryz.prog l.toArray Q (o :: rest) A w := l_do f hd hN hw (y_not ho hx) (h)
theorem vli {p : Addr} (ho : o.op = .nilCheck x := by exact rfl) (hx : ev L x = some (.pointer (some p)) := by exact rfl) (hd : o.dst = some d := by exact rfl) (hN : Nat.blt d N = true := by exact rfl) (hw : wantB l L o = some true := by exact rfl) (h : ∀ A, Fr A N ((d, .pointer (some p)) :: L) → wpList Tryz.prog l.toArray Q rest A w) (A : Act) (f : Fr A N L) : wpList Tryz.prog l.toArray Q (o :: rest) A w := l_do f hd hN hw (y_nil ho hx) (h)
theorem vlz {p : Option Addr} {n c j : Nat} (ho : o.op = .call ⟨.builtin .len, #[x], #[t]⟩ := by exact rfl) (hx : ev L x = some (.slice p n c) := by exact rfl) (h1 : lookN tE t = some j := by exact rfl) (hd : o.dst = some d := by exact rfl) (hN : Nat.blt d N = true := by exact rfl) (hw : wantB l L o = some true := by exact rfl) (h : ∀ A, Fr A N ((d, .int .i64 n) :: L) → wpList Tryz.prog l.toArray Q rest A w) (A : Act) (f : Fr A N L) : wpList Tryz.prog l.toArray Q (o :: rest) A w := l_do f hd hN hw (y_len ho hx (sl h1)) (h)
theorem vld (hy : YC Tryz.prog (ClB w) L o v) (hd : o.dst = some d := by exact rfl) (hN : Nat.blt d N = true := by exact rfl) (hw : wantB l L o = some true := by exact rfl) (h : ∀ A, Fr A N ((d, v) :: L) → wpList Tryz.prog l.toArray Q rest A w) (A : Act) (f : Fr A N L) : wpList Tryz.prog l.toArray Q (o :: rest) A w := l_do f hd hN hw hy h
theorem vlb {p : Prop} [Decidable p] (hy : YC Tryz.prog (ClB w) L o (.bool (decide p))) (hd : o.dst = some d := by exact rfl) (hN : Nat.blt d N = true := by exact rfl) (hw : wantB l L o = some true := by exact rfl) (h : p → ∀ A, Fr A N ((d, .bool true) :: L) → wpList Tryz.prog l.toArray Q rest A w) (g : ¬ p → ∀ A, Fr A N ((d, .bool false) :: L) → wpList Tryz.prog l.toArray Q rest A w) (A : Act) (f : Fr A N L) : wpList Tryz.prog l.toArray Q (o :: rest) A w := l_if _ f hd hN hw hy h g
theorem vlx {j s b off n c : Nat} {p : Option Addr} (ho : o.op = .indexAddr t x y := by exact rfl) (hx : ev L x = some (.slice p n c) := by exact rfl) (hp : p = some ⟨b, off, none⟩ := by first | exact rfl | assumption) (hi : ev L y = some (.int .i64 (j : Nat)) := by exact rfl) (h1 : lookN tE t = some s := by exact rfl) (hk : j < n := by omega) (hd : o.dst = some d := by exact rfl) (hN : Nat.blt d N = true := by exact rfl) (hw : wantB l L o = some true := by exact rfl) (h : ∀ A, Fr A N ((d, .pointer (some ⟨b, off + j * s, none⟩)) :: L) → wpList Tryz.prog l.toArray Q rest A w) (A : Act) (f : Fr A N L) : wpList Tryz.prog l.toArray Q (o :: rest) A w := l_do f hd hN hw (y_index ho hx hp hi (es h1) hk) h
theorem vlA {a b c : Int} (ho : o.op = .binOp .add t x y u := by exact rfl) (hx : ev L x = some (.int .i64 a) := by exact rfl) (hy : ev L y = some (.int .i64 b) := by exact rfl) (hc : a + b = c := by exact rfl) (hb : -9223372036854775808 ≤ c ∧ c ≤ 9223372036854775807 := by omega) (hd : o.dst = some d := by exact rfl) (hN : Nat.blt d N = true := by exact rfl) (hw : wantB l L o = some true := by exact rfl) (h : ∀ A, Fr A N ((d, .int .i64 c) :: L) → wpList Tryz.prog l.toArray Q rest A w) (A : Act) (f : Fr A N L) : wpList Tryz.prog l.toArray Q (o :: rest) A w := l_do f hd hN hw (y_add ho hx hy hc hb) (h)
theorem vl1 {b j n : Nat} {cs : List Value} {tt : TypeId} (hr : ∀ wx, (ClB w) wx → wx.heap[b]? = some (.cells cs.toArray tt (0, 0))) (ho : o.op = .load t x := by exact rfl) (hx : ev L x = some (.pointer (some ⟨b, j, none⟩)) := by exact rfl) (h1 : lookN tA t = some n := by exact rfl) (h2 : aggN n = none := by exact rfl) (hv : cs[j]? = some v := by exact rfl) (hd : o.dst = some d := by exact rfl) (hN : Nat.blt d N = true := by exact rfl) (hw : wantB l L o = some true := by exact rfl) (h : ∀ A, Fr A N ((d, v) :: L) → wpList Tryz.prog l.toArray Q rest A w) (A : Act) (f : Fr A N L) : wpList Tryz.prog l.toArray Q (o :: rest) A w := l_do f hd hN hw (y_load1 ho hx (ag h1 h2) (rowl hr hv)) h
theorem vl2 {b j n : Nat} {cs : List Value} {tt : TypeId} {v1 v2 : Value} (hr : ∀ wx, (ClB w) wx → wx.heap[b]? = some (.cells cs.toArray tt (0, 0))) (ho : o.op = .load t x := by exact rfl) (hx : ev L x = some (.pointer (some ⟨b, j, none⟩)) := by exact rfl) (h1 : lookN tA t = some n := by exact rfl) (h2 : aggN n = some 2 := by exact rfl) (hv : matchL (cs.drop j) [v1, v2] := by exact ⟨rfl, rfl, trivial⟩) (hd : o.dst = some d := by exact rfl) (hN : Nat.blt d N = true := by exact rfl) (hw : wantB l L o = some true := by exact rfl) (h : ∀ A, Fr A N ((d, .agg [v1, v2].toArray) :: L) → wpList Tryz.prog l.toArray Q rest A w) (A : Act) (f : Fr A N L) : wpList Tryz.prog l.toArray Q (o :: rest) A w := l_do f hd hN hw (y_loadN (vs := [v1, v2]) ho hx (ag h1 h2) rfl (rowls hr _ _ hv)) h
theorem vl3 {b j n : Nat} {cs : List Value} {tt : TypeId} {v1 v2 v3 : Value} (hr : ∀ wx, (ClB w) wx → wx.heap[b]? = some (.cells cs.toArray tt (0, 0))) (ho : o.op = .load t x := by exact rfl) (hx : ev L x = some (.pointer (some ⟨b, j, none⟩)) := by exact rfl) (h1 : lookN tA t = some n := by exact rfl) (h2 : aggN n = some 3 := by exact rfl) (hv : matchL (cs.drop j) [v1, v2, v3] := by exact ⟨rfl, rfl, rfl, trivial⟩) (hd : o.dst = some d := by exact rfl) (hN : Nat.blt d N = true := by exact rfl) (hw : wantB l L o = some true := by exact rfl) (h : ∀ A, Fr A N ((d, .agg [v1, v2, v3].toArray) :: L) → wpList Tryz.prog l.toArray Q rest A w) (A : Act) (f : Fr A N L) : wpList Tryz.prog l.toArray Q (o :: rest) A w := l_do f hd hN hw (y_loadN (vs := [v1, v2, v3]) ho hx (ag h1 h2) rfl (rowls hr _ _ hv)) h
theorem vl4 {b j n : Nat} {cs : List Value} {tt : TypeId} {v1 v2 v3 v4 : Value} (hr : ∀ wx, (ClB w) wx → wx.heap[b]? = some (.cells cs.toArray tt (0, 0))) (ho : o.op = .load t x := by exact rfl) (hx : ev L x = some (.pointer (some ⟨b, j, none⟩)) := by exact rfl) (h1 : lookN tA t = some n := by exact rfl) (h2 : aggN n = some 4 := by exact rfl) (hv : matchL (cs.drop j) [v1, v2, v3, v4] := by exact ⟨rfl, rfl, rfl, rfl, trivial⟩) (hd : o.dst = some d := by exact rfl) (hN : Nat.blt d N = true := by exact rfl) (hw : wantB l L o = some true := by exact rfl) (h : ∀ A, Fr A N ((d, .agg [v1, v2, v3, v4].toArray) :: L) → wpList Tryz.prog l.toArray Q rest A w) (A : Act) (f : Fr A N L) : wpList Tryz.prog l.toArray Q (o :: rest) A w := l_do f hd hN hw (y_loadN (vs := [v1, v2, v3, v4]) ho hx (ag h1 h2) rfl (rowls hr _ _ hv)) h
theorem vl5 {b j n : Nat} {cs : List Value} {tt : TypeId} {v1 v2 v3 v4 v5 : Value} (hr : ∀ wx, (ClB w) wx → wx.heap[b]? = some (.cells cs.toArray tt (0, 0))) (ho : o.op = .load t x := by exact rfl) (hx : ev L x = some (.pointer (some ⟨b, j, none⟩)) := by exact rfl) (h1 : lookN tA t = some n := by exact rfl) (h2 : aggN n = some 5 := by exact rfl) (hv : matchL (cs.drop j) [v1, v2, v3, v4, v5] := by exact ⟨rfl, rfl, rfl, rfl, rfl, trivial⟩) (hd : o.dst = some d := by exact rfl) (hN : Nat.blt d N = true := by exact rfl) (hw : wantB l L o = some true := by exact rfl) (h : ∀ A, Fr A N ((d, .agg [v1, v2, v3, v4, v5].toArray) :: L) → wpList Tryz.prog l.toArray Q rest A w) (A : Act) (f : Fr A N L) : wpList Tryz.prog l.toArray Q (o :: rest) A w := l_do f hd hN hw (y_loadN (vs := [v1, v2, v3, v4, v5]) ho hx (ag h1 h2) rfl (rowls hr _ _ hv)) h
theorem vqm (ho : o.op = .move x := by exact rfl) (hx : ev L x = some v := by exact rfl) (hd : o.dst = some d := by exact rfl) (hN : Nat.blt d N = true := by exact rfl) (hw : wantB l L o = some true := by exact rfl) (h : ∀ A, Fr A N ((d, v) :: L) → wpQuiet Tryz.prog l.toArray C Z rest A) (A : Act) (f : Fr A N L) : wpQuiet Tryz.prog l.toArray C Z (o :: rest) A := q_do f hd hN hw (y_move ho hx) (h)
theorem vqa (ho : o.op = .assign x := by exact rfl) (hx : ev L x = some v := by exact rfl) (hd : o.dst = some d := by exact rfl) (hN : Nat.blt d N = true := by exact rfl) (hw : wantB l L o = some true := by exact rfl) (h : ∀ A, Fr A N ((d, v) :: L) → wpQuiet Tryz.prog l.toArray C Z rest A) (A : Act) (f : Fr A N L) : wpQuiet Tryz.prog l.toArray C Z (o :: rest) A := q_do f hd hN hw (y_assign ho hx) (h)
theorem vqf {s : TypeId} {i j b off : Nat} (ho : o.op = .fieldAddr s x i := by exact rfl) (hx : ev L x = some (.pointer (some ⟨b, off, none⟩)) := by exact rfl) (h1 : lookN tF (s * 16 + i) = some j := by exact rfl) (h2 : Nat.blt i 16 = true := by exact rfl) (hd : o.dst = some d := by exact rfl) (hN : Nat.blt d N = true := by exact rfl) (hw : wantB l L o = some true := by exact rfl) (h : ∀ A, Fr A N ((d, .pointer (some ⟨b, off + j, none⟩)) :: L) → wpQuiet Tryz.prog l.toArray C Z rest A) (A : Act) (f : Fr A N L) : wpQuiet Tryz.prog l.toArray C Z (o :: rest) A := q_do f hd hN hw (y_field ho hx (fo h1 h2)) (h)
theorem vqp {c : Bool} (ho : o.op = .pick x y z := by exact rfl) (hx : ev L x = some (.bool c) := by exact rfl) (hy : (bif c then ev L y else ev L z) = some v := by exact rfl) (hd : o.dst = some d := by exact rfl) (hN : Nat.blt d N = true := by exact rfl) (hw : wantB l L o = some true := by exact rfl) (h : ∀ A, Fr A N ((d, v) :: L) → wpQuiet Tryz.prog l.toArray C Z rest A) (A : Act) (f : Fr A N L) : wpQuiet Tryz.prog l.toArray C Z (o :: rest) A := q_do f hd hN hw (y_pick ho hx hy) (h)
theorem vqe {i : Nat} {vs : Array Value} (ho : o.op = .extract x i := by exact rfl) (hx : ev L x = some (.tuple vs) := by exact rfl) (hy : vs[i]? = some v := by exact rfl) (hd : o.dst = some d := by exact rfl) (hN : Nat.blt d N = true := by exact rfl) (hw : wantB l L o = some true := by exact rfl) (h : ∀ A, Fr A N ((d, v) :: L) → wpQuiet Tryz.prog l.toArray C Z rest A) (A : Act) (f : Fr A N L) : wpQuiet Tryz.prog l.toArray C Z (o :: rest) A := q_do f hd hN hw (y_ext ho hx hy) (h)
theorem vqi {p : Addr} (ho : o.op = .nilCheck x := by exact rfl) (hx : ev L x = some (.pointer (some p)) := by exact rfl) (hd : o.dst = some d := by exact rfl) (hN : Nat.blt d N = true := by exact rfl) (hw : wantB l L o = some true := by exact rfl) (h : ∀ A, Fr A N ((d, .pointer (some p)) :: L) → wpQuiet Tryz.prog l.toArray C Z rest A) (A : Act) (f : Fr A N L) : wpQuiet Tryz.prog l.toArray C Z (o :: rest) A := q_do f hd hN hw (y_nil ho hx) (h)
theorem vqd (hy : YC Tryz.prog C L o v) (hd : o.dst = some d := by exact rfl) (hN : Nat.blt d N = true := by exact rfl) (hw : wantB l L o = some true := by exact rfl) (h : ∀ A, Fr A N ((d, v) :: L) → wpQuiet Tryz.prog l.toArray C Z rest A) (A : Act) (f : Fr A N L) : wpQuiet Tryz.prog l.toArray C Z (o :: rest) A := q_do f hd hN hw hy h
theorem vqb {p : Prop} [Decidable p] (hy : YC Tryz.prog C L o (.bool (decide p))) (hd : o.dst = some d := by exact rfl) (hN : Nat.blt d N = true := by exact rfl) (hw : wantB l L o = some true := by exact rfl) (h : p → ∀ A, Fr A N ((d, .bool true) :: L) → wpQuiet Tryz.prog l.toArray C Z rest A) (g : ¬ p → ∀ A, Fr A N ((d, .bool false) :: L) → wpQuiet Tryz.prog l.toArray C Z rest A) (A : Act) (f : Fr A N L) : wpQuiet Tryz.prog l.toArray C Z (o :: rest) A := q_if _ f hd hN hw hy h g
theorem vqx {j s b off n c : Nat} {p : Option Addr} (ho : o.op = .indexAddr t x y := by exact rfl) (hx : ev L x = some (.slice p n c) := by exact rfl) (hp : p = some ⟨b, off, none⟩ := by first | exact rfl | assumption) (hi : ev L y = some (.int .i64 (j : Nat)) := by exact rfl) (h1 : lookN tE t = some s := by exact rfl) (hk : j < n := by omega) (hd : o.dst = some d := by exact rfl) (hN : Nat.blt d N = true := by exact rfl) (hw : wantB l L o = some true := by exact rfl) (h : ∀ A, Fr A N ((d, .pointer (some ⟨b, off + j * s, none⟩)) :: L) → wpQuiet Tryz.prog l.toArray C Z rest A) (A : Act) (f : Fr A N L) : wpQuiet Tryz.prog l.toArray C Z (o :: rest) A := q_do f hd hN hw (y_index ho hx hp hi (es h1) hk) h
theorem vqA {a b c : Int} (ho : o.op = .binOp .add t x y u := by exact rfl) (hx : ev L x = some (.int .i64 a) := by exact rfl) (hy : ev L y = some (.int .i64 b) := by exact rfl) (hc : a + b = c := by exact rfl) (hb : -9223372036854775808 ≤ c ∧ c ≤ 9223372036854775807 := by omega) (hd : o.dst = some d := by exact rfl) (hN : Nat.blt d N = true := by exact rfl) (hw : wantB l L o = some true := by exact rfl) (h : ∀ A, Fr A N ((d, .int .i64 c) :: L) → wpQuiet Tryz.prog l.toArray C Z rest A) (A : Act) (f : Fr A N L) : wpQuiet Tryz.prog l.toArray C Z (o :: rest) A := q_do f hd hN hw (y_add ho hx hy hc hb) (h)
theorem vq1 {b j n : Nat} {cs : List Value} {tt : TypeId} (hr : ∀ wx, C wx → wx.heap[b]? = some (.cells cs.toArray tt (0, 0))) (ho : o.op = .load t x := by exact rfl) (hx : ev L x = some (.pointer (some ⟨b, j, none⟩)) := by exact rfl) (h1 : lookN tA t = some n := by exact rfl) (h2 : aggN n = none := by exact rfl) (hv : cs[j]? = some v := by exact rfl) (hd : o.dst = some d := by exact rfl) (hN : Nat.blt d N = true := by exact rfl) (hw : wantB l L o = some true := by exact rfl) (h : ∀ A, Fr A N ((d, v) :: L) → wpQuiet Tryz.prog l.toArray C Z rest A) (A : Act) (f : Fr A N L) : wpQuiet Tryz.prog l.toArray C Z (o :: rest) A := q_do f hd hN hw (y_load1 ho hx (ag h1 h2) (rowl hr hv)) h
theorem vq3 {b j n : Nat} {cs : List Value} {tt : TypeId} {v1 v2 v3 : Value} (hr : ∀ wx, C wx → wx.heap[b]? = some (.cells cs.toArray tt (0, 0))) (ho : o.op = .load t x := by exact rfl) (hx : ev L x = some (.pointer (some ⟨b, j, none⟩)) := by exact rfl) (h1 : lookN tA t = some n := by exact rfl) (h2 : aggN n = some 3 := by exact rfl) (hv : matchL (cs.drop j) [v1, v2, v3] := by exact ⟨rfl, rfl, rfl, trivial⟩) (hd : o.dst = some d := by exact rfl) (hN : Nat.blt d N = true := by exact rfl) (hw : wantB l L o = some true := by exact rfl) (h : ∀ A, Fr A N ((d, .agg [v1, v2, v3].toArray) :: L) → wpQuiet Tryz.prog l.toArray C Z rest A) (A : Act) (f : Fr A N L) : wpQuiet Tryz.prog l.toArray C Z (o :: rest) A := q_do f hd hN hw (y_loadN (vs := [v1, v2, v3]) ho hx (ag h1 h2) rfl (rowls hr _ _ hv)) h
theorem vq4 {b j n : Nat} {cs : List Value} {tt : TypeId} {v1 v2 v3 v4 : Value} (hr : ∀ wx, C wx → wx.heap[b]? = some (.cells cs.toArray tt (0, 0))) (ho : o.op = .load t x := by exact rfl) (hx : ev L x = some (.pointer (some ⟨b, j, none⟩)) := by exact rfl) (h1 : lookN tA t = some n := by exact rfl) (h2 : aggN n = some 4 := by exact rfl) (hv : matchL (cs.drop j) [v1, v2, v3, v4] := by exact ⟨rfl, rfl, rfl, rfl, trivial⟩) (hd : o.dst = some d := by exact rfl) (hN : Nat.blt d N = true := by exact rfl) (hw : wantB l L o = some true := by exact rfl) (h : ∀ A, Fr A N ((d, .agg [v1, v2, v3, v4].toArray) :: L) → wpQuiet Tryz.prog l.toArray C Z rest A) (A : Act) (f : Fr A N L) : wpQuiet Tryz.prog l.toArray C Z (o :: rest) A := q_do f hd hN hw (y_loadN (vs := [v1, v2, v3, v4]) ho hx (ag h1 h2) rfl (rowls hr _ _ hv)) h
theorem vq5 {b j n : Nat} {cs : List Value} {tt : TypeId} {v1 v2 v3 v4 v5 : Value} (hr : ∀ wx, C wx → wx.heap[b]? = some (.cells cs.toArray tt (0, 0))) (ho : o.op = .load t x := by exact rfl) (hx : ev L x = some (.pointer (some ⟨b, j, none⟩)) := by exact rfl) (h1 : lookN tA t = some n := by exact rfl) (h2 : aggN n = some 5 := by exact rfl) (hv : matchL (cs.drop j) [v1, v2, v3, v4, v5] := by exact ⟨rfl, rfl, rfl, rfl, rfl, trivial⟩) (hd : o.dst = some d := by exact rfl) (hN : Nat.blt d N = true := by exact rfl) (hw : wantB l L o = some true := by exact rfl) (h : ∀ A, Fr A N ((d, .agg [v1, v2, v3, v4, v5].toArray) :: L) → wpQuiet Tryz.prog l.toArray C Z rest A) (A : Act) (f : Fr A N L) : wpQuiet Tryz.prog l.toArray C Z (o :: rest) A := q_do f hd hN hw (y_loadN (vs := [v1, v2, v3, v4, v5]) ho hx (ag h1 h2) rfl (rowls hr _ _ hv)) h
theorem vhm (ho : o.op = .move x := by exact rfl) (hx : ev L x = some v := by exact rfl) (he : memN eff k = false := by exact rfl) (hd : o.dst = some d := by exact rfl) (hN : Nat.blt d N = true := by exact rfl) (hw : wantB l L o = some true := by exact rfl) (h : ∀ A, Fr A N ((d, v) :: L) → wpHL Tryz.prog l Q S eff (k + 1) rest A w) (A : Act) (f : Fr A N L) : wpHL Tryz.prog l Q S eff k (o :: rest) A w := h_do f he hd hN hw (y_move ho hx) (h)
theorem vhf {s : TypeId} {i j b off : Nat} (ho : o.op = .fieldAddr s x i := by exact rfl) (hx : ev L x = some (.pointer (some ⟨b, off, none⟩)) := by exact rfl) (h1 : lookN tF (s * 16 + i) = some j := by exact rfl) (h2 : Nat.blt i 16 = true := by exact rfl) (he : memN eff k = false := by exact rfl) (hd : o.dst = some d := by exact rfl) (hN : Nat.blt d N = true := by exact rfl) (hw : wantB l L o = some true := by exact rfl) (h : ∀ A, Fr A N ((d, .pointer (some ⟨b, off + j, none⟩)) :: L) → wpHL Tryz.prog l Q S eff (k + 1) rest A w) (A : Act) (f : Fr A N L) : wpHL Tryz.prog l Q S eff k (o :: rest) A w := h_do f he hd hN hw (y_field ho hx (fo h1 h2)) (h)
theorem vhi {p : Addr} (ho : o.op = .nilCheck x := by exact rfl) (hx : ev L x = some (.pointer (some p)) := by exact rfl) (he : memN eff k = false := by exact rfl) (hd : o.dst = some d := by exact rfl) (hN : Nat.blt d N = true := by exact rfl) (hw : wantB l L o = some true := by exact rfl) (h : ∀ A, Fr A N ((d, .pointer (some p)) :: L) → wpHL Tryz.prog l Q S eff (k + 1) rest A w) (A : Act) (f : Fr A N L) : wpHL Tryz.prog l Q S eff k (o :: rest) A w := h_do f he hd hN hw (y_nil ho hx) (h)
theorem vhd (hy : YC Tryz.prog S L o v) (he : memN eff k = false := by exact rfl) (hd : o.dst = some d := by exact rfl) (hN : Nat.blt d N = true := by exact rfl) (hw : wantB l L o = some true := by exact rfl) (h : ∀ A, Fr A N ((d, v) :: L) → wpHL Tryz.prog l Q S eff (k + 1) rest A w) (A : Act) (f : Fr A N L) : wpHL Tryz.prog l Q S eff k (o :: rest) A w := h_do f he hd hN hw hy h
theorem vhx {j s b off n c : Nat} {p : Option Addr} (ho : o.op = .indexAddr t x y := by exact rfl) (hx : ev L x = some (.slice p n c) := by exact rfl) (hp : p = some ⟨b, off, none⟩ := by first | exact rfl | assumption) (hi : ev L y = some (.int .i64 (j : Nat)) := by exact rfl) (h1 : lookN tE t = some s := by exact rfl) (hk : j < n := by omega) (he : memN eff k = false := by exact rfl) (hd : o.dst = some d := by exact rfl) (hN : Nat.blt d N = true := by exact rfl) (hw : wantB l L o = some true := by exact rfl) (h : ∀ A, Fr A N ((d, .pointer (some ⟨b, off + j * s, none⟩)) :: L) → wpHL Tryz.prog l Q S eff (k + 1) rest A w) (A : Act) (f : Fr A N L) : wpHL Tryz.prog l Q S eff k (o :: rest) A w := h_do f he hd hN hw (y_index ho hx hp hi (es h1) hk) h
theorem vh1 {b j n : Nat} {cs : List Value} {tt : TypeId} (hr : ∀ wx, S wx → wx.heap[b]? = some (.cells cs.toArray tt (0, 0))) (ho : o.op = .load t x := by exact rfl) (hx : ev L x = some (.pointer (some ⟨b, j, none⟩)) := by exact rfl) (h1 : lookN tA t = some n := by exact rfl) (h2 : aggN n = none := by exact rfl) (hv : cs[j]? = some v := by exact rfl) (he : memN eff k = false := by exact rfl) (hd : o.dst = some d := by exact rfl) (hN : Nat.blt d N = true := by exact rfl) (hw : wantB l L o = some true := by exact rfl) (h : ∀ A, Fr A N ((d, v) :: L) → wpHL Tryz.prog l Q S eff (k + 1) rest A w) (A : Act) (f : Fr A N L) : wpHL Tryz.prog l Q S eff k (o :: rest) A w := h_do f he hd hN hw (y_load1 ho hx (ag h1 h2) (rowl hr hv)) h
theorem vh3 {b j n : Nat} {cs : List Value} {tt : TypeId} {v1 v2 v3 : Value} (hr : ∀ wx, S wx → wx.heap[b]? = some (.cells cs.toArray tt (0, 0))) (ho : o.op = .load t x := by exact rfl) (hx : ev L x = some (.pointer (some ⟨b, j, none⟩)) := by exact rfl) (h1 : lookN tA t = some n := by exact rfl) (h2 : aggN n = some 3 := by exact rfl) (hv : matchL (cs.drop j) [v1, v2, v3] := by exact ⟨rfl, rfl, rfl, trivial⟩) (he : memN eff k = false := by exact rfl) (hd : o.dst = some d := by exact rfl) (hN : Nat.blt d N = true := by exact rfl) (hw : wantB l L o = some true := by exact rfl) (h : ∀ A, Fr A N ((d, .agg [v1, v2, v3].toArray) :: L) → wpHL Tryz.prog l Q S eff (k + 1) rest A w) (A : Act) (f : Fr A N L) : wpHL Tryz.prog l Q S eff k (o :: rest) A w := h_do f he hd hN hw (y_loadN (vs := [v1, v2, v3]) ho hx (ag h1 h2) rfl (rowls hr _ _ hv)) h
theorem vh4 {b j n : Nat} {cs : List Value} {tt : TypeId} {v1 v2 v3 v4 : Value} (hr : ∀ wx, S wx → wx.heap[b]? = some (.cells cs.toArray tt (0, 0))) (ho : o.op = .load t x := by exact rfl) (hx : ev L x = some (.pointer (some ⟨b, j, none⟩)) := by exact rfl) (h1 : lookN tA t = some n := by exact rfl) (h2 : aggN n = some 4 := by exact rfl) (hv : matchL (cs.drop j) [v1, v2, v3, v4] := by exact ⟨rfl, rfl, rfl, rfl, trivial⟩) (he : memN eff k = false := by exact rfl) (hd : o.dst = some d := by exact rfl) (hN : Nat.blt d N = true := by exact rfl) (hw : wantB l L o = some true := by exact rfl) (h : ∀ A, Fr A N ((d, .agg [v1, v2, v3, v4].toArray) :: L) → wpHL Tryz.prog l Q S eff (k + 1) rest A w) (A : Act) (f : Fr A N L) : wpHL Tryz.prog l Q S eff k (o :: rest) A w := h_do f he hd hN hw (y_loadN (vs := [v1, v2, v3, v4]) ho hx (ag h1 h2) rfl (rowls hr _ _ hv)) h
variable {P : Program} {K : Act → World → Prop} {ops : Array Oper} {c c2 : Code} {i j : Nat} {id : Nat}
theorem vT (h : ∀ A, Fr A N L → K A w) (A : Act) (f : Fr A N L) : Exit.then K Q .normal A w := h A f
theorem vN (h : ∀ A, Fr A N L → Q .normal A w) (A : Act) (f : Fr A N L) : wpList P ops Q [] A w := h A f
theorem vS (h : ∀ A, Fr A N L → c.wp P (Exit.then (c2.wp P Q) Q) A w) (A : Act) (f : Fr A N L) : (Code.seq c c2).wp P Q A w := wp_seq (h A f)
theorem vR (h : ∀ A, Fr A N L → wpList P l.toArray Q l A w) (A : Act) (f : Fr A N L) : (Code.region id l.toArray false).wp P Q A w := sx_list (h A f)
theorem vK (h : ∀ A, Fr A N L → Q .normal A w) (A : Act) (f : Fr A N L) : Code.skip.wp P Q A w := wp_skip (h A f)
theorem vB (h : ∀ A, Fr A N L → c.wp P (Exit.inBlock id Q) A w) (A : Act) (f : Fr A N L) : (Code.block id c).wp P Q A w := wp_block (h A f)
theorem vU (h : ∀ A, Fr A N L → Q .normal A w) (A : Act) (f : Fr A N L) : Exit.inBlock i Q .normal A w := x_bn (h A f)
theorem vE (h : ∀ A, Fr A N L → Q .ret A w) (A : Act) (f : Fr A N L) : Code.ret.wp P Q A w := wp_ret (h A f)
theorem vF (h : ∀ A, Fr A N L → Q .ret A w) (A : Act) (f : Fr A N L) : Exit.then K Q .ret A w := x_tr (h A f)
theorem vG (h : ∀ A, Fr A N L → Q .ret A w) (A : Act) (f : Fr A N L) : Exit.inBlock i Q .ret A w := x_br (h A f)
theorem vX (h : ∀ A, Fr A N L → Q (.exit i) A w) (A : Act) (f : Fr A N L) : (Code.exit i).wp P Q A w := wp_exit (h A f)
theorem vH (h : ∀ A, Fr A N L → Q (.exit i) A w) (A : Act) (f : Fr A N L) : Exit.then K Q (.exit i) A w := x_te (h A f)
theorem vI (h : ∀ A, Fr A N L → Q .normal A w) (A : Act) (f : Fr A N L) : Exit.inBlock i Q (.exit i) A w := x_bh (h A f)
theorem vJ (he : Nat.beq j i = false := by exact rfl) (h : ∀ A, Fr A N L → Q (.exit j) A w) (A : Act) (f : Fr A N L) : Exit.inBlock i Q (.exit j) A w := x_be he (h A f)
theorem vC (hx : ev L x = some (.bool true) := by exact rfl) (h : ∀ A, Fr A N L → c.wp P Q A w) (A : Act) (f : Fr A N L) : (Code.cond x c c2).wp P Q A w := x_condT f hx (h A f)
theorem vD (hx : ev L x = some (.bool false) := by exact rfl) (h : ∀ A, Fr A N L → c2.wp P Q A w) (A : Act) (f : Fr A N L) : (Code.cond x c c2).wp P Q A w := x_condF f hx (h A f)
theorem vM (h : ∀ A, Fr A N L → Q .normal A w) (A : Act) (f : Fr A N L) : wpHL P l Q S eff k [] A w := h A f
theorem vQ (h : ∀ w', ClB w w' → ∀ A, Fr A N L → Q .normal A w') (A : Act) (f : Fr A N L) : wpQuiet P ops (ClB w) (fun a' => ∀ w', ClB w w' → Q .normal a' w') [] A := fun w' hb => h w' hb A f
theorem vlc {g : FuncId} {args : List Value} (hR : Calls Tryz.prog g args.toArray w fun e w' => e = .returned v ∧ Below w.heap.size w w') {xs : List Operand} {tys : Array TypeId} (h1 : o.op = .call ⟨.value x, xs.toArray, tys⟩ := by exact rfl) (h2 : ev L x = some (.func (.func g) #[] #[]) := by exact rfl) (h3 : evs L xs = some args := by exact rfl) (hp : memN tP g = true := by exact rfl) (hd : o.dst = some d := by exact rfl) (hN : Nat.blt d N = true := by exact rfl) (hw : wantB l L o = some true := by exact rfl) (h : ∀ W, Below w.heap.size w W → ∀ A, Fr A N ((d, v) :: L) → wpList Tryz.prog l.toArray Q rest A W) (A : Act) (f : Fr A N L) : wpList Tryz.prog l.toArray Q (o :: rest) A w := by
 have hc : IsCall L o g args := by have := IsCall.mk' (cap := []) h1 h2 h3; rwa [List.append_nil] at this
 refine l_call f hd hN hw hc (pl hp) hR ?_
 rintro _ W ⟨rfl, hb⟩
 exact ⟨_, rfl, h W hb⟩
theorem vqc {g : FuncId} {args : List Value} (hR : ∀ wx, C wx → Calls Tryz.prog g args.toArray wx fun e w' => e = .returned v ∧ C w') {xs : List Operand} {tys : Array TypeId} (h1 : o.op = .call ⟨.value x, xs.toArray, tys⟩ := by exact rfl) (h2 : ev L x = some (.func (.func g) #[] #[]) := by exact rfl) (h3 : evs L xs = some args := by exact rfl) (hp : memN tP g = true := by exact rfl) (hd : o.dst = some d := by exact rfl) (hN : Nat.blt d N = true := by exact rfl) (hw : wantB l L o = some true := by exact rfl) (h : ∀ A, Fr A N ((d, v) :: L) → wpQuiet Tryz.prog l.toArray C Z rest A) (A : Act) (f : Fr A N L) : wpQuiet Tryz.prog l.toArray C Z (o :: rest) A := by
 have hc : IsCall L o g args := by have := IsCall.mk' (cap := []) h1 h2 h3; rwa [List.append_nil] at this
 exact q_call f hd hN hw hc (pl hp) hR h
theorem vls {tt : TypeId} {b off n : Nat} {cs : List Value} (f : Fr A N L) (hrow : w.heap[b]? = some (.cells cs.toArray tt (0, 0))) (h : ∀ W, But b w W → W.heap[b]? = some (.cells (setL cs off v.cells.toList).toArray tt (0, 0)) → wpList Tryz.prog l.toArray Q rest A W)
    (hd : o.dst = none := by exact rfl) (hw : wantB l L o = some true := by exact rfl) (ho : o.op = .store t x y := by exact rfl) (hx : ev L x = some (.pointer (some ⟨b, off, none⟩)) := by exact rfl) (hy : ev L y = some v := by exact rfl) (h1 : lookN tS t = some n := by exact rfl) (hn : v.cells.size = n := by exact rfl) (hf : Nat.ble (off + n) cs.length = true := by exact rfl) (h2 : (v.cells.toList.all (·.oneCell')) = true := by exact rfl) : wpList Tryz.prog l.toArray Q (o :: rest) A w :=
 l_store f hd hw ho hx hy hrow (sz h1) hn (Nat.le_of_ble_eq_true hf) h2 h
def offs (l : List Oper) (N : Nat) : Nat → List Oper → List (Nat × Value) → Option (List (Nat × Value))
 | 0, _, L => some L
 | _ + 1, [], _ => none
 | n + 1, o :: r, L => match o.dst, wantB l L o with
  | some d, some false => bif Nat.blt d N then offs l N n r ((d, undef) :: L) else none
  | _, _ => none
set_option linter.unusedVariables false in
theorem vlO {l : List Oper} : ∀ (n : Nat) {rest : List Oper} {L L' : List (Nat × Value)} (h1 : offs l N n rest L = some L' := by exact rfl) (h : ∀ A, Fr A N L' → wpList Tryz.prog l.toArray Q (rest.drop n) A w) (A : Act) (f : Fr A N L), wpList Tryz.prog l.toArray Q rest A w
 | 0, _, _, _, h1, h, A, f => by cases h1; exact h A f
 | n + 1, [], _, _, h1, _, _, _ => by cases h1
 | n + 1, o :: r, L, L', h1, h, A, f => by
  unfold offs at h1
  cases hd : o.dst with
  | none => simp [hd] at h1
  | some d =>
   cases hw : wantB l L o with
   | none => simp [hd, hw] at h1
   | some b =>
    cases b with
    | true => simp [hd, hw] at h1
    | false =>
     cases hN : Nat.blt d N with
     | false => simp [hd, hw, hN] at h1
     | true =>
      simp only [hd, hw, hN, cond_true] at h1
      exact l_no f hd hN hw (fun A f => vlO n (rest := r) h1 h A f)
set_option linter.unusedVariables false in
theorem vqO {l : List Oper} : ∀ (n : Nat) {rest : List Oper} {L L' : List (Nat × Value)} (h1 : offs l N n rest L = some L' := by exact rfl) (h : ∀ A, Fr A N L' → wpQuiet Tryz.prog l.toArray C Z (rest.drop n) A) (A : Act) (f : Fr A N L), wpQuiet Tryz.prog l.toArray C Z rest A
 | 0, _, _, _, h1, h, A, f => by cases h1; exact h A f
 | n + 1, [], _, _, h1, _, _, _ => by cases h1
 | n + 1, o :: r, L, L', h1, h, A, f => by
  unfold offs at h1
  cases hd : o.dst with
  | none => simp [hd] at h1
  | some d =>
   cases hw : wantB l L o with
   | none => simp [hd, hw] at h1
   | some b =>
    cases b with
    | true => simp [hd, hw] at h1
    | false =>
     cases hN : Nat.blt d N with
     | false => simp [hd, hw, hN] at h1
     | true =>
      simp only [hd, hw, hN, cond_true] at h1
      exact q_no f hd hN hw (fun A f => vqO n (rest := r) h1 h A f)
theorem vW (h : ∀ A, Fr A N L → K A w) (A : Act) (f : Fr A N L) : wpList P ops (Exit.then K Q) [] A w := h A f
end
end Go.Proofs.YtjohdbiipeedkaaGreatDoor
namespace Go.Proofs.YtjohdbiipeedkaaGreatDoor.Kit
open Go Go.RowKit
def andI (a b : Int) : Int := IntKind.i64.wrap ((BitVec.ofInt 64 a &&& BitVec.ofInt 64 b).toNat : Nat)
def andN (a b : Int) : Int := IntKind.i64.wrap ((BitVec.ofInt 64 a &&& ~~~BitVec.ofInt 64 b).toNat : Nat)
variable {P : Program} {C : World → Prop} {L : List (Nat × Value)} {o : Oper} {x y : Operand} {t u : TypeId} {a b : Int}
theorem y_and (ho : o.op = .binOp .and t x y u) (hx : ev L x = some (.int .i64 a)) (hy : ev L y = some (.int .i64 b)) : YC P C L o (.int .i64 (andI a b)) := by
 intro ρ hρ wx _
 simp [execOp, ho, hρ _ _ hx, hρ _ _ hy, binOp, Op.intBits, go_sem]
 rfl
theorem y_andNot (ho : o.op = .binOp .andNot t x y u) (hx : ev L x = some (.int .i64 a)) (hy : ev L y = some (.int .i64 b)) : YC P C L o (.int .i64 (andN a b)) := by
 intro ρ hρ wx _
 simp [execOp, ho, hρ _ _ hx, hρ _ _ hy, binOp, Op.intBits, go_sem]
 rfl
def flag16 (f : Int) : Prop := 0 ≤ f ∧ f ≤ 15
theorem f16 {f : Int} (h : flag16 f) {p : Int → Prop} (h0 : p 0) (h1 : p 1) (h2 : p 2) (h3 : p 3) (h4 : p 4) (h5 : p 5) (h6 : p 6) (h7 : p 7) (h8 : p 8) (h9 : p 9) (h10 : p 10) (h11 : p 11) (h12 : p 12) (h13 : p 13) (h14 : p 14) (h15 : p 15) : p f := by
 obtain ⟨g1, g2⟩ := h
 rcases (show f = 0 ∨ f = 1 ∨ f = 2 ∨ f = 3 ∨ f = 4 ∨ f = 5 ∨ f = 6 ∨ f = 7 ∨ f = 8 ∨ f = 9 ∨ f = 10 ∨ f = 11 ∨ f = 12 ∨ f = 13 ∨ f = 14 ∨ f = 15 by omega) with e | e | e | e | e | e | e | e | e | e | e | e | e | e | e | e <;> rw [e] <;> assumption
theorem and_low {f : Int} (h : flag16 f) : (andI f 1 ≠ 0 ↔ f % 2 = 1) ∧ (andI f 2 ≠ 0 ↔ f / 2 % 2 = 1) ∧ (andI f 4 ≠ 0 ↔ f / 4 % 2 = 1) ∧ (andI f 8 ≠ 0 ↔ 8 ≤ f) ∧ (andI f 6 = 6 ↔ f / 2 % 4 = 3) := by
 refine f16 h (p := fun f => (andI f 1 ≠ 0 ↔ f % 2 = 1) ∧ (andI f 2 ≠ 0 ↔ f / 2 % 2 = 1) ∧ (andI f 4 ≠ 0 ↔ f / 4 % 2 = 1) ∧ (andI f 8 ≠ 0 ↔ 8 ≤ f) ∧ (andI f 6 = 6 ↔ f / 2 % 4 = 3)) ?_ ?_ ?_ ?_ ?_ ?_ ?_ ?_ ?_ ?_ ?_ ?_ ?_ ?_ ?_ ?_ <;> decide
theorem wrap_zero {n : Nat} (hn : n < 18446744073709551616) : IntKind.i64.wrap (n : Int) = 0 ↔ n = 0 := by
 rw [IntKind.wrap_i64]
 omega
theorem andN_zero {f : Int} (h1 : -9223372036854775808 ≤ f) (h2 : f ≤ 9223372036854775807) : andN f 15 = 0 ↔ flag16 f := by
 unfold andN
 rw [wrap_zero (BitVec.isLt _)]
 constructor
 ·intro h
  have hz : BitVec.ofInt 64 f &&& ~~~BitVec.ofInt 64 15 = 0#64 := BitVec.eq_of_toNat_eq (by simpa using h)
  have hlt : (BitVec.ofInt 64 f).toNat < 2 ^ 4 := by
   refine Nat.lt_pow_two_of_testBit _ fun i hi => ?_
   have hb := congrArg (fun v => v.getLsbD i) hz
   simp only [BitVec.getLsbD_and, BitVec.getLsbD_not, BitVec.getLsbD_zero] at hb
   have h15 : (BitVec.ofInt 64 15).getLsbD i = false := by
    have : BitVec.ofInt 64 15 = 15#64 := by decide
    rw [this]
    simp only [BitVec.getLsbD, BitVec.toNat_ofNat]
    exact Nat.testBit_lt_two_pow (Nat.lt_of_lt_of_le (show 15 % 2 ^ 64 < 2 ^ 4 by decide) (Nat.pow_le_pow_right (by omega) hi))
   rw [h15] at hb
   show (BitVec.ofInt 64 f).getLsbD i = false
   by_cases hi' : i < 64
   ·simpa [hi'] using hb
   ·exact BitVec.getLsbD_of_ge _ _ (by omega)
  rw [BitVec.toNat_ofInt] at hlt
  unfold flag16
  omega
 ·intro h
  exact f16 h (p := fun f => (BitVec.ofInt 64 f &&& ~~~BitVec.ofInt 64 15).toNat = 0) (by decide) (by decide) (by decide) (by decide) (by decide) (by decide) (by decide) (by decide) (by decide) (by decide) (by decide) (by decide) (by decide) (by decide) (by decide) (by decide)
structure Bk where
 a : Int
 o : Int
 t : Int
def Bk.zero : Bk := ⟨0, 0, 0⟩
def bvals : List Bk → List Value
 | [] => []
 | b :: l => Value.int .i64 b.a :: Value.int .i64 b.o :: Value.int .i64 b.t :: bvals l
theorem length_bvals (l : List Bk) : (bvals l).length = l.length * 3 := by
 induction l with
 | nil => rfl
 | cons r l ih => simp only [bvals, List.length_cons, ih]; omega
theorem bvals_append (l m : List Bk) : bvals (l ++ m) = bvals l ++ bvals m := by
 induction l with
 | nil => rfl
 | cons r l ih => simp [bvals, ih]
theorem bvals_0 (l : List Bk) (i : Nat) (h : i < l.length) : (bvals l)[i * 3]? = some (.int .i64 (l.getD i .zero).a) := by
 induction l generalizing i with
 | nil => simp at h
 | cons r l ih =>
  cases i with
  | zero => simp [bvals]
  | succ i =>
   have := ih i (by simpa using h)
   rw [Nat.succ_mul]
   simpa [bvals] using this
theorem bvals_1 (l : List Bk) (i : Nat) (h : i < l.length) : (bvals l)[i * 3 + 1]? = some (.int .i64 (l.getD i .zero).o) := by
 induction l generalizing i with
 | nil => simp at h
 | cons r l ih =>
  cases i with
  | zero => simp [bvals]
  | succ i =>
   have := ih i (by simpa using h)
   rw [Nat.succ_mul]
   simpa [bvals] using this
theorem bvals_2 (l : List Bk) (i : Nat) (h : i < l.length) : (bvals l)[i * 3 + 2]? = some (.int .i64 (l.getD i .zero).t) := by
 induction l generalizing i with
 | nil => simp at h
 | cons r l ih =>
  cases i with
  | zero => simp [bvals]
  | succ i =>
   have := ih i (by simpa using h)
   rw [Nat.succ_mul]
   simpa [bvals] using this
theorem bvals_oneCell (l : List Bk) : ∀ u ∈ bvals l, u.oneCell' = true := by
 induction l with
 | nil => intro u hu; simp [bvals] at hu
 | cons r l ih =>
  intro u hu
  simp only [bvals, List.mem_cons] at hu
  rcases hu with rfl | rfl | rfl | hu
  ·rfl
  ·rfl
  ·rfl
  exact ih u hu
theorem bvals_set2 (l : List Bk) (i : Nat) (x : Int) (h : i < l.length) : (bvals l).set (i * 3 + 2) (.int .i64 x) = bvals (l.set i ⟨(l.getD i .zero).a, (l.getD i .zero).o, x⟩) := by
 induction l generalizing i with
 | nil => simp at h
 | cons r l ih =>
  cases i with
  | zero => simp [bvals]
  | succ i =>
   have := ih i (by simpa using h)
   rw [Nat.succ_mul]
   simpa [bvals] using this
def BlksAt (w : World) (ao : Option Addr) (l : List Bk) : Prop :=
 ∀ i, i < l.length → ∃ b off, ao = some ⟨b, off, none⟩ ∧ w.cell? ⟨b, off + i * 3, none⟩ = some (.int .i64 (l.getD i .zero).a) ∧ w.cell? ⟨b, off + i * 3 + 1, none⟩ = some (.int .i64 (l.getD i .zero).o) ∧ w.cell? ⟨b, off + i * 3 + 2, none⟩ = some (.int .i64 (l.getD i .zero).t)
theorem BlksAt.below {w w' : World} {ao : Option Addr} {l : List Bk} (h : BlksAt w ao l) (hb : Below w.heap.size w w') : BlksAt w' ao l := by
 intro i hi
 obtain ⟨b, off, ha, h1, h2, h3⟩ := h i hi
 exact ⟨b, off, ha, keep h1 hb, keep h2 hb, keep h3 hb⟩
theorem BlksAt.nil (w : World) (ao : Option Addr) : BlksAt w ao [] := fun i hi => absurd hi (by simp)
theorem blks_of_owns {w : World} {base : Nat} {e : TypeId} {ao : Option Addr} {n cap : Nat} {l : List Bk}
    (h : w.ownsRow base e 3 (.slice ao n cap) n (bvals l)) : BlksAt w ao l := by
 intro i hi
 have hl := h.1
 rw [length_bvals] at hl
 rcases h.2 with ⟨h', h0⟩ | ⟨g, cap', cur, h', _, hg, _, _, _, htake⟩
 ·omega
 simp only [Value.slice.injEq] at h'
 obtain ⟨rfl, _, rfl⟩ := h'
 refine ⟨g, 0, rfl, ?_, ?_, ?_⟩
 ·rw [Nat.zero_add, h.cellAt (i * 3) (by omega), bvals_0 l i hi]
 ·rw [Nat.zero_add, h.cellAt (i * 3 + 1) (by omega), bvals_1 l i hi]
 rw [Nat.zero_add, h.cellAt (i * 3 + 2) (by omega), bvals_2 l i hi]
theorem bowns_len {w : World} {base : Nat} {e : TypeId} {v : Value} {n : Nat} {l : List Bk}
    (h : w.ownsRow base e 3 v n (bvals l)) : l.length = n := by have := h.1; rw [length_bvals] at this; omega
theorem bsrc_of {w : World} {ao : Option Addr} {l : List Bk} (h : BlksAt w ao l) (h0 : 0 < l.length) : ∃ ad, ao = some ad ∧ ∀ j v, (bvals l)[j]? = some v → w.cell? (ad.add j) = some v := by
 obtain ⟨b, off, rfl, _⟩ := h 0 h0
 refine ⟨_, rfl, fun j v hj => ?_⟩
 have hadd : (⟨b, off, none⟩ : Addr).add j = ⟨b, off + j, none⟩ := by unfold Addr.add; split <;> simp_all
 rw [hadd]
 have hlt : j < (bvals l).length := (List.getElem?_eq_some_iff.1 hj).1
 rw [length_bvals] at hlt
 obtain ⟨b', off', he, c1, c2, c3⟩ := h (j / 3) (by omega)
 simp only [Option.some.injEq, Addr.mk.injEq, and_true] at he
 obtain ⟨rfl, rfl⟩ := he
 rcases (show j % 3 = 0 ∨ j % 3 = 1 ∨ j % 3 = 2 by omega) with hm | hm | hm
 ·have e1 : j = j / 3 * 3 := by omega
  rw [e1, bvals_0 l _ (by omega)] at hj
  rw [← e1] at c1
  rw [c1]; exact hj
 ·have e1 : j = j / 3 * 3 + 1 := by omega
  rw [e1, bvals_1 l _ (by omega)] at hj
  have e2 : off + j / 3 * 3 + 1 = off + j := by omega
  rw [e2] at c2
  rw [c2]; exact hj
 have e1 : j = j / 3 * 3 + 2 := by omega
 rw [e1, bvals_2 l _ (by omega)] at hj
 have e2 : off + j / 3 * 3 + 2 = off + j := by omega
 rw [e2] at c3
 rw [c3]; exact hj
theorem BlksAt.at {w : World} {ao : Option Addr} {l : List Bk} (h : BlksAt w ao l) (k : Nat) (hk : k < l.length) : ∃ b off x y z, ao = some ⟨b, off, none⟩ ∧ w.cell? ⟨b, off + k * 3, none⟩ = some (.int .i64 x) ∧ w.cell? ⟨b, off + k * 3 + 1, none⟩ = some (.int .i64 y) ∧ w.cell? ⟨b, off + k * 3 + 2, none⟩ = some (.int .i64 z) ∧ Hid (l.getD k .zero = ⟨x, y, z⟩) := by
 obtain ⟨b, off, ha, h1, h2, h3⟩ := h k hk
 exact ⟨b, off, _, _, _, ha, h1, h2, h3, rfl⟩
theorem take_getD (l : List Bk) (k : Nat) (h : k < l.length) {b : Bk} (hx : l.getD k .zero = b) : l.take (k + 1) = l.take k ++ [b] := by
 rw [List.getD_eq_getElem?_getD, List.getElem?_eq_getElem h] at hx
 simp only [Option.getD_some] at hx
 rw [List.take_succ_eq_append_getElem h, hx]
structure Blks (w : World) (ao : Option Addr) (n : Nat) (l : List Bk) : Prop where
 len : l.length = n
 reach : n * 24 ≤ 140737488351232
 at_ : BlksAt w ao l
structure Nums (w : World) (ao : Option Addr) (n : Nat) (l : List Int) : Prop where
 len : l.length = n
 reach : n * 8 ≤ 140737488351232
 at_ : IntsAt w ao l
theorem Blks.below {w w' : World} {ao : Option Addr} {n : Nat} {l : List Bk} (h : Blks w ao n l) (hb : Below w.heap.size w w') : Blks w' ao n l := ⟨h.len, h.reach, h.at_.below hb⟩
theorem Nums.below {w w' : World} {ao : Option Addr} {n : Nat} {l : List Int} (h : Nums w ao n l) (hb : Below w.heap.size w w') : Nums w' ao n l := ⟨h.len, h.reach, h.at_.below hb⟩
theorem Blks.nil (w : World) : Blks w none 0 [] := ⟨rfl, by omega, BlksAt.nil _ _⟩
theorem Nums.nil (w : World) : Nums w none 0 [] := ⟨rfl, by omega, IntsAt.nil _ _⟩
theorem But.blks {b n : Nat} {ao : Option Addr} {l : List Bk} {w w' : World} (h : But b w w') (hr : Blks w ao n l) (hne : ∀ a, ao = some a → a.block ≠ b) : Blks w' ao n l := by
 refine ⟨hr.len, hr.reach, fun i hi => ?_⟩
 obtain ⟨c, o, ha, h1, h2, h3⟩ := hr.at_ i hi
 exact ⟨c, o, ha, h.cell h1 (hne _ ha), h.cell h2 (hne _ ha), h.cell h3 (hne _ ha)⟩
theorem But.nums {b n : Nat} {ao : Option Addr} {l : List Int} {w w' : World} (h : But b w w') (hr : Nums w ao n l) (hne : ∀ a, ao = some a → a.block ≠ b) : Nums w' ao n l := by
 refine ⟨hr.len, hr.reach, fun i hi => ?_⟩
 obtain ⟨c, o, ha, h1⟩ := hr.at_ i hi
 exact ⟨c, o, ha, h.cell h1 (hne _ ha)⟩
structure Zn where
 f : Int
 t : Int
 free : List Bk
 types : List Int
structure ZnAt (w : World) (fo : Option Addr) (fn : Nat) (to_ : Option Addr) (tn : Nat) (z : Zn) : Prop where
 free : Blks w fo fn z.free
 types : Nums w to_ tn z.types
theorem ZnAt.below {w w' : World} {fo : Option Addr} {fn : Nat} {to_ : Option Addr} {tn : Nat} {z : Zn} (h : ZnAt w fo fn to_ tn z) (hb : Below w.heap.size w w') : ZnAt w' fo fn to_ tn z := ⟨h.free.below hb, h.types.below hb⟩
theorem But.zn {b : Nat} {w w' : World} {fo : Option Addr} {fn : Nat} {to_ : Option Addr} {tn : Nat} {z : Zn} (h : But b w w') (hz : ZnAt w fo fn to_ tn z) (h1 : ∀ a, fo = some a → a.block ≠ b) (h2 : ∀ a, to_ = some a → a.block ≠ b) : ZnAt w' fo fn to_ tn z := ⟨h.blks hz.free h1, h.nums hz.types h2⟩
def zval (z : Zn) (fo : Option Addr) (fn fc : Nat) (to_ : Option Addr) (tn tc : Nat) : Value := .agg #[.int .i64 z.f, .int .i64 z.t, .slice fo fn fc, .slice to_ tn tc]
structure Res4 (W : World) (b : Nat) : Prop where
 d0 : ∃ v, W.cell? ⟨b, 0, none⟩ = some v
 d1 : ∃ v, W.cell? ⟨b, 1, none⟩ = some v
 d2 : ∃ v, W.cell? ⟨b, 2, none⟩ = some v
 d3 : ∃ v, W.cell? ⟨b, 3, none⟩ = some v
 z0 : W.frozen? ⟨b, 0, none⟩ = false
 z1 : W.frozen? ⟨b, 1, none⟩ = false
 z2 : W.frozen? ⟨b, 2, none⟩ = false
 z3 : W.frozen? ⟨b, 3, none⟩ = false
theorem Res4.but {W W' : World} {b c : Nat} (h : Res4 W b) (hb : But c W W') (hne : b ≠ c) : Res4 W' b := by
 obtain ⟨⟨v0, e0⟩, ⟨v1, e1⟩, ⟨v2, e2⟩, ⟨v3, e3⟩, z0, z1, z2, z3⟩ := h
 have hbk := hb.block b (World.block_lt_of_cell? W _ e0) hne
 exact ⟨⟨v0, hb.cell e0 hne⟩, ⟨v1, hb.cell e1 hne⟩, ⟨v2, hb.cell e2 hne⟩, ⟨v3, hb.cell e3 hne⟩, (World.frozen?_of_block (a := ⟨b, 0, none⟩) hbk).trans z0, (World.frozen?_of_block (a := ⟨b, 1, none⟩) hbk).trans z1, (World.frozen?_of_block (a := ⟨b, 2, none⟩) hbk).trans z2, (World.frozen?_of_block (a := ⟨b, 3, none⟩) hbk).trans z3⟩
theorem Res4.below {W W' : World} {b : Nat} (h : Res4 W b) (hb : Below W.heap.size W W') : Res4 W' b := by
 obtain ⟨v0, e0⟩ := h.d0
 have hlt := World.block_lt_of_cell? W _ e0
 exact h.but (c := W'.heap.size) ⟨hb.os, hb.tape, hb.output, hb.size, fun k hk _ => hb.block k hk⟩ (by have := hb.size; dsimp only at hlt; omega)
def set4 (W : World) (b : Nat) (x y u v : Value) : World := (((W.setCell ⟨b, 0, none⟩ x).setCell ⟨b, 1, none⟩ y).setCell ⟨b, 2, none⟩ u).setCell ⟨b, 3, none⟩ v
theorem but4 (W : World) (b : Nat) (x y u v : Value) : But b W ((((W.setCell ⟨b, 0, none⟩ x).setCell ⟨b, 1, none⟩ y).setCell ⟨b, 2, none⟩ u).setCell ⟨b, 3, none⟩ v) :=
 (((((But.refl b W).setCell x).setCell y).setCell u).setCell v)
theorem res4 {W : World} {b : Nat} (h : Res4 W b) (x y u v : Value) :
    ((((W.setCell ⟨b, 0, none⟩ x).setCell ⟨b, 1, none⟩ y).setCell ⟨b, 2, none⟩ u).setCell ⟨b, 3, none⟩ v).cell? ⟨b, 0, none⟩ = some x ∧
    ((((W.setCell ⟨b, 0, none⟩ x).setCell ⟨b, 1, none⟩ y).setCell ⟨b, 2, none⟩ u).setCell ⟨b, 3, none⟩ v).cell? ⟨b, 1, none⟩ = some y ∧
    ((((W.setCell ⟨b, 0, none⟩ x).setCell ⟨b, 1, none⟩ y).setCell ⟨b, 2, none⟩ u).setCell ⟨b, 3, none⟩ v).cell? ⟨b, 2, none⟩ = some u ∧
    ((((W.setCell ⟨b, 0, none⟩ x).setCell ⟨b, 1, none⟩ y).setCell ⟨b, 2, none⟩ u).setCell ⟨b, 3, none⟩ v).cell? ⟨b, 3, none⟩ = some v := by
 obtain ⟨v0, e0⟩ := h.d0
 obtain ⟨v1, e1⟩ := h.d1
 obtain ⟨v2, e2⟩ := h.d2
 obtain ⟨v3, e3⟩ := h.d3
 have o : ∀ (X : World) (i j : Nat) (r : Value), i ≠ j → (X.setCell ⟨b, i, none⟩ r).cell? ⟨b, j, none⟩ = X.cell? ⟨b, j, none⟩ := fun X i j r hij => World.cell?_setCell_other _ _ _ _ (by intro g; cases g; exact hij rfl)
 refine ⟨?_, ?_, ?_, ?_⟩
 ·rw [o _ 3 0 _ (by decide), o _ 2 0 _ (by decide), o _ 1 0 _ (by decide)]
  exact World.cell?_setCell_same _ _ _ e0
 ·rw [o _ 3 1 _ (by decide), o _ 2 1 _ (by decide)]
  exact World.cell?_setCell_same _ _ _ ((o _ 0 1 _ (by decide)).trans e1)
 ·rw [o _ 3 2 _ (by decide)]
  exact World.cell?_setCell_same _ _ _ ((o _ 1 2 _ (by decide)).trans ((o _ 0 2 _ (by decide)).trans e2))
 exact World.cell?_setCell_same _ _ _ ((o _ 2 3 _ (by decide)).trans ((o _ 1 3 _ (by decide)).trans ((o _ 0 3 _ (by decide)).trans e3)))
structure ZBox (W : World) (b : Nat) (x y u v : Value) : Prop where
 c0 : W.cell? ⟨b, 0, none⟩ = some x
 c1 : W.cell? ⟨b, 1, none⟩ = some y
 c2 : W.cell? ⟨b, 2, none⟩ = some u
 c3 : W.cell? ⟨b, 3, none⟩ = some v
 z0 : W.frozen? ⟨b, 0, none⟩ = false
 z1 : W.frozen? ⟨b, 1, none⟩ = false
 z2 : W.frozen? ⟨b, 2, none⟩ = false
 z3 : W.frozen? ⟨b, 3, none⟩ = false
theorem ZBox.res {W : World} {b : Nat} {x y u v : Value} (h : ZBox W b x y u v) : Res4 W b := ⟨⟨_, h.c0⟩, ⟨_, h.c1⟩, ⟨_, h.c2⟩, ⟨_, h.c3⟩, h.z0, h.z1, h.z2, h.z3⟩
theorem ZBox.lt {W : World} {b : Nat} {x y u v : Value} (h : ZBox W b x y u v) : b < W.heap.size := by
 have := World.block_lt_of_cell? W _ h.c0
 exact this
theorem ZBox.but {W W' : World} {b c : Nat} {x y u v : Value} (h : ZBox W b x y u v) (hb : But c W W') (hne : b ≠ c) : ZBox W' b x y u v := by
 have r := h.res.but hb hne
 exact ⟨hb.cell h.c0 hne, hb.cell h.c1 hne, hb.cell h.c2 hne, hb.cell h.c3 hne, r.z0, r.z1, r.z2, r.z3⟩
theorem ZBox.below {W W' : World} {b : Nat} {x y u v : Value} (h : ZBox W b x y u v) (hb : Below W.heap.size W W') : ZBox W' b x y u v := by
 have r := h.res.below hb
 exact ⟨keep h.c0 hb, keep h.c1 hb, keep h.c2 hb, keep h.c3 hb, r.z0, r.z1, r.z2, r.z3⟩
theorem zbox_new (W : World) (x y u v : Value) (t : TypeId) : ZBox (W.alloc (.cells #[x, y, u, v] t)) W.heap.size x y u v :=
 ⟨by simp, by simp, by simp, by simp, by simp, by simp, by simp, by simp⟩
theorem ZBox.set2 {W : World} {b : Nat} {x y u v : Value} (h : ZBox W b x y u v) (u' : Value) : ZBox (W.setCell ⟨b, 2, none⟩ u') b x y u' v := by
 have o : ∀ j : Nat, j ≠ 2 → (W.setCell ⟨b, 2, none⟩ u').cell? ⟨b, j, none⟩ = W.cell? ⟨b, j, none⟩ := fun j hj => World.cell?_setCell_other _ _ _ _ (by intro g; cases g; exact hj rfl)
 exact ⟨(o 0 (by decide)).trans h.c0, (o 1 (by decide)).trans h.c1, World.cell?_setCell_same _ _ _ h.c2, (o 3 (by decide)).trans h.c3, by simpa using h.z0, by simpa using h.z1, by simpa using h.z2, by simpa using h.z3⟩
theorem ZBox.set4 {W : World} {b : Nat} {x y u v : Value} (h : ZBox W b x y u v) (x' y' u' v' : Value) : ZBox ((((W.setCell ⟨b, 0, none⟩ x').setCell ⟨b, 1, none⟩ y').setCell ⟨b, 2, none⟩ u').setCell ⟨b, 3, none⟩ v') b x' y' u' v' := by
 obtain ⟨k0, k1, k2, k3⟩ := res4 h.res x' y' u' v'
 exact ⟨k0, k1, k2, k3, by simpa using h.z0, by simpa using h.z1, by simpa using h.z2, by simpa using h.z3⟩
theorem nums_of_owns {w : World} {base : Nat} {e : TypeId} {ao : Option Addr} {n cap : Nat} {l : List Int} (h : w.ownsRow base e 1 (.slice ao n cap) n (vals l)) (hr : n * 8 ≤ 140737488351232) : Nums w ao n l := ⟨owns_len h, hr, ints_of_owns h⟩
theorem blks_own {w : World} {base : Nat} {e : TypeId} {ao : Option Addr} {n cap : Nat} {l : List Bk} (h : w.ownsRow base e 3 (.slice ao n cap) n (bvals l)) (hr : n * 24 ≤ 140737488351232) : Blks w ao n l := ⟨bowns_len h, hr, blks_of_owns h⟩
def RetZone (B : Nat) (w' : World) (z : Zn) (e : Ending) : Prop :=
 ∃ fo fn fc to_ tn tc, e = .returned (.tuple #[.agg #[.int .i64 z.f, .int .i64 z.t, .slice fo fn fc, .slice to_ tn tc], .int .i64 0]) ∧ ZnAt w' fo fn to_ tn z ∧ Fresh B fo ∧ Fresh B to_
def RetNone (c : Int) (e : Ending) : Prop := e = .returned (.tuple #[.agg #[.int .i64 0, .int .i64 0, .slice none 0 0, .slice none 0 0], .int .i64 c])
theorem fresh_none (B : Nat) : Fresh B none := fun a ha => by cases ha
theorem Fresh.mono {B C : Nat} {ao : Option Addr} (h : Fresh B ao) (hc : C ≤ B) : Fresh C ao := fun a ha => Nat.le_trans hc (h a ha)
theorem ZBox.belowB {B : Nat} {W W' : World} {b : Nat} {x y u v : Value} (h : ZBox W b x y u v) (hb : Below B W W') (hlt : b < B) : ZBox W' b x y u v :=
 ⟨(hb.cell (p := ⟨b, 0, none⟩) hlt).trans h.c0, (hb.cell (p := ⟨b, 1, none⟩) hlt).trans h.c1, (hb.cell (p := ⟨b, 2, none⟩) hlt).trans h.c2, (hb.cell (p := ⟨b, 3, none⟩) hlt).trans h.c3, (hb.frozen (p := ⟨b, 0, none⟩) hlt).trans h.z0, (hb.frozen (p := ⟨b, 1, none⟩) hlt).trans h.z1, (hb.frozen (p := ⟨b, 2, none⟩) hlt).trans h.z2, (hb.frozen (p := ⟨b, 3, none⟩) hlt).trans h.z3⟩
theorem Res4.belowB {B : Nat} {W W' : World} {b : Nat} (h : Res4 W b) (hb : Below B W W') (hlt : b < B) : Res4 W' b := by
 obtain ⟨⟨v0, e0⟩, ⟨v1, e1⟩, ⟨v2, e2⟩, ⟨v3, e3⟩, z0, z1, z2, z3⟩ := h
 exact (ZBox.belowB ⟨e0, e1, e2, e3, z0, z1, z2, z3⟩ hb hlt).res
theorem cell_three_new (w : World) (a b c : Value) (t : TypeId) : ∀ j u, [a, b, c][j]? = some u → (w.alloc (.cells #[a, b, c] t)).cell? ((⟨w.heap.size, 0, none⟩ : Addr).add j) = some u := by
 intro j u hj
 match j, hj with
 | 0, hj => simp at hj; subst hj; simp [Addr.add]
 | 1, hj => simp at hj; subst hj; simp [Addr.add]
 | 2, hj => simp at hj; subst hj; simp [Addr.add]
 | j + 3, hj => simp at hj
open Go Go.RowKit Go.ChangeShapes Go.WideShapes Go.ChangeAt
structure IsInts (w : World) (ao : Option Addr) (n cap : Nat) (xs : List Int) : Prop where
 len : xs.length = n
 le : n ≤ cap
 reach : cap * 8 ≤ 140737488351232
 nil : ao = none → n = 0 ∧ cap = 0
 at_ : IntsAt w ao xs
theorem open_ints_arg {H : Type} {enc : TypeId × Value → H} {P : Program} {W : World} {base : Nat} {t e : TypeId} {v : Value} {d : DataW H} {p : List MemPlace}
    (ht : P.underlying t = some (.slice e)) (he : P.underlying e = some (.int .i64)) (hc : P.cellsOf e = 1) (hv : Value.okWide P W .any base t v)
    (h : DataW.Trod enc P W 0 (fun _ => true) true t v d p) (hs : ∀ elems spare, d = .slice elems spare → (elems.length + spare.length) * 8 ≤ 140737488351232) :
    ∃ ao n cap xs, v = .slice ao n cap ∧ IsInts W ao n cap xs := by
 obtain ⟨ao, n, cap, rfl⟩ := okWide_slice ht hv
 obtain ⟨fuel, hf⟩ := h
 rcases open_ints ht he hc hf with ⟨hcs, _⟩ | ⟨x, l, c, zs, hcs, _, hl, hm, hz, hx, hcell, _⟩
 ·simp [Value.cells] at hcs
  obtain ⟨rfl, rfl, rfl⟩ := hcs
  exact ⟨none, 0, 0, [], rfl, ⟨rfl, by omega, by omega, fun _ => ⟨rfl, rfl⟩, IntsAt.nil _ _⟩⟩
 simp [Value.cells] at hcs
 obtain ⟨rfl, rfl, rfl⟩ := hcs
 simp only [if_true] at hz
 simp only [Prod.mk.injEq] at hx
 have hr := hs _ _ hx.1
 simp only [lits, List.length_map, List.length_take, List.length_drop] at hr
 have hr' : cap * 8 ≤ 140737488351232 := by omega
 refine ⟨some x, n, cap, zs.take n, rfl, ⟨by simp; omega, hl, hr', fun h => (by cases h), ?_⟩⟩
 intro i hi
 have hi' : i < n := by simp at hi; omega
 have hci := hcell i (by omega)
 obtain ⟨b, off, spot⟩ := x
 have hspot : spot = none := by
  by_cases h0 : i = 0
  ·subst h0; simpa [Addr.add] using World.cell?_spot hci
  have := World.cell?_spot (hcell 0 (by omega)); simpa [Addr.add] using this
 subst hspot
 refine ⟨b, off, rfl, ?_⟩
 have hadd : (⟨b, off, none⟩ : Addr).add i = ⟨b, off + i, none⟩ := by unfold Addr.add; split <;> simp_all
 rw [hadd] at hci
 rw [hci]
 simp [List.getD_eq_getElem?_getD, hi']
end Go.Proofs.YtjohdbiipeedkaaGreatDoor.Kit
namespace Go.Proofs.YtjohdbiipeedkaaGreatDoor
open Go Go.RowKit Go.Proofs.YtjohdbiipeedkaaGreatDoor.Kit
theorem info_int : (Tryz.prog.info? 3).map (fun i => (i.zero, i.size, i.bytes)) = some (some (.int .i64 0), 1, 8) := by kernel_rfl
theorem size_int : (Tryz.prog.info? 3).map (·.size) = some 1 := by kernel_rfl
def flagsOk (f : Int) : Prop := flag16 f ∧ ¬ (f / 2 % 4 = 3)
instance (f : Int) : Decidable (flagsOk f) := by unfold flagsOk flag16; infer_instance
def typeF (f : Int) : Int := if f / 2 % 2 = 1 then 1 else if f / 4 % 2 = 1 then 2 else 0
theorem pAreFlags_c (w : World) (f0 : Int) (h1 : -9223372036854775808 ≤ f0) (h2 : f0 ≤ 9223372036854775807) :
    Calls Tryz.prog 45 #[.int .i64 f0] w fun e w' => e = .returned (.bool (decide (flagsOk f0))) ∧ Below w.heap.size w w' := by
 have B0 := Below.refl w.heap.size w
 refine sx_enter (args := [_]) 11 Tryz.func45 rfl rfl rfl ?_
 refine vS (vR (vla (h:=vW (vS (vR (vlm (h:=vld (y_andNot rfl rfl rfl) (h:=vlb (y_eql rfl rfl rfl) (h:=?_) (g:=?_)))))))))
 ·intro c1
  refine vlm (h:=vlm (h:=vld (y_and rfl rfl rfl) (h:=vlb (y_neq rfl rfl rfl) (h:=?_) (g:=?_))))
  ·intro c2
   refine vlp (h:=vla (h:=vW (vE ?_))); intro A f
   refine x_ret1 f rfl rfl ?_
   have hf : flag16 f0 := (andN_zero h1 h2).1 c1
   have hn : flagsOk f0 := ⟨hf, fun h => c2 ((and_low hf).2.2.2.2.2 h)⟩
   exact ⟨by rw [decide_eq_true hn], B0⟩
  intro c2
  refine vlp (h:=vla (h:=vW (vE ?_))); intro A f
  refine x_ret1 f rfl rfl ?_
  have hf : flag16 f0 := (andN_zero h1 h2).1 c1
  have hn : ¬ flagsOk f0 := fun h => h.2 ((and_low hf).2.2.2.2.1 (Decidable.not_not.1 c2))
  exact ⟨by rw [decide_eq_false hn], B0⟩
 intro c1
 refine vlm (h:=vlO 3 (h:=vlp (h:=vla (h:=vW (vE ?_))))); intro A f
 refine x_ret1 f rfl rfl ?_
 have hn : ¬ flagsOk f0 := fun h => c1 ((andN_zero h1 h2).2 h.1)
 exact ⟨by rw [decide_eq_false hn], B0⟩
theorem rqHas_c (w : World) (cpu o fl b : Int) :
    Calls Tryz.prog 69 #[.agg #[.int .i64 cpu, .int .i64 o, .int .i64 fl], .int .i64 b] w fun e w' => e = .returned (.bool (decide (andI fl b ≠ 0))) ∧ Below w.heap.size w w' := by
 have B0 := Below.refl w.heap.size w
 refine sx_enter (args := [_, _]) 10 Tryz.func69 rfl rfl rfl ?_
 refine vS (vR ?_); intro A f
 refine l_box f rfl rfl rfl rfl rfl ?_; clear f A; intro b1 W2 eb1 hb3 rb1 A f; dsimp only [Value.cells] at rb1
 have z_B0_b1 := B0.size; rw [eb1] at z_B0_b1
 replace B0 := Below.next B0 hb3
 revert A; refine vla (h:=vW (vS (vR (vlf (h:=vl1 (rowq rb1) (h:=vlm (h:=vld (y_and rfl rfl rfl) (h:=vld (y_neq rfl rfl rfl) (h:=vla (h:=vW (vE ?_))))))))))); intro A f
 refine x_ret1 f rfl rfl ?_
 exact ⟨rfl, B0⟩
theorem rqType_c (w : World) (cpu o fl : Int) (hf : flag16 fl) :
    Calls Tryz.prog 48 #[.agg #[.int .i64 cpu, .int .i64 o, .int .i64 fl]] w fun e w' => e = .returned (.int .i64 (typeF fl)) ∧ Below w.heap.size w w' := by
 have B0 := Below.refl w.heap.size w
 refine sx_enter (args := [_]) 9 Tryz.func48 rfl rfl rfl ?_
 refine vS (vR ?_); intro A f
 refine l_box f rfl rfl rfl rfl rfl ?_; clear f A; intro b1 W2 eb1 hb3 rb1 A f; dsimp only [Value.cells] at rb1
 have z_B0_b1 := B0.size; rw [eb1] at z_B0_b1
 replace B0 := Below.next B0 hb3
 revert A; refine vla (h:=vW (vS (vB (vS (vR (vl3 (rowq rb1) (h:=?_))))))); intro A f
 refine l_callif _ f rfl rfl rfl (IsCall.mk' (cap := []) rfl rfl rfl) (pl rfl) (rqHas_c _ _ _ _ _) ?_ ?_
 ·clear f A; intro c4 W6 hb5 A f
  replace B0 := Below.next B0 hb5; replace rb1 := row_next rb1 hb5
  revert A; refine vla (h:=vW (vC (h:=vS (vR (vla (h:=vW (vE (vG (vF ?_))))))))); intro A f
  refine x_ret1 f rfl rfl ?_
  exact ⟨by unfold typeF; rw [if_pos ((and_low hf).2.1.1 c4)], B0⟩
 clear f A; intro c4 W6 hb5 A f
 replace B0 := Below.next B0 hb5; replace rb1 := row_next rb1 hb5
 revert A; refine vla (h:=vW (vD (h:=vS (vR (vl3 (rowq rb1) (h:=?_)))))); intro A f
 refine l_callif _ f rfl rfl rfl (IsCall.mk' (cap := []) rfl rfl rfl) (pl rfl) (rqHas_c _ _ _ _ _) ?_ ?_
 ·clear f A; intro c7 W9 hb8 A f
  replace B0 := Below.next B0 hb8; replace rb1 := row_next rb1 hb8
  revert A; refine vla (h:=vW (vC (h:=vS (vR (vla (h:=vW (vE (vG (vF ?_))))))))); intro A f
  refine x_ret1 f rfl rfl ?_
  exact ⟨by unfold typeF; rw [if_neg (fun h => c4 ((and_low hf).2.1.2 h)), if_pos ((and_low hf).2.2.1.1 c7)], B0⟩
 clear f A; intro c7 W9 hb8 A f
 replace B0 := Below.next B0 hb8; replace rb1 := row_next rb1 hb8
 revert A; refine vla (h:=vW (vD (h:=vK (vU (vT (vS (vR (vla (h:=vW (vE ?_)))))))))); intro A f
 refine x_ret1 f rfl rfl ?_
 exact ⟨by unfold typeF; rw [if_neg (fun h => c4 ((and_low hf).2.1.2 h)), if_neg (fun h => c7 ((and_low hf).2.2.1.2 h))], B0⟩
def zonesF (f : Int) : List Int := if f % 2 = 1 then [0] else [1, 0]
theorem bs_z1 (w : World) : (Instr.buildSlice 30 1 #[(0, .int .i64 0)]).run Tryz.prog w = .ok (.slice (some ⟨w.heap.size, 0, none⟩) 1 1) (w.alloc (.cells #[.int .i64 0] 3)) := by
 simp [go_sem]
theorem bs_z2 (w : World) : (Instr.buildSlice 30 2 #[(0, .int .i64 1), (1, .int .i64 0)]).run Tryz.prog w = .ok (.slice (some ⟨w.heap.size, 0, none⟩) 2 2) (w.alloc (.cells #[.int .i64 1, .int .i64 0] 3)) := by
 simp [go_sem]
theorem rqZones_c (w : World) (cpu o fl : Int) (hf : flag16 fl) :
    Calls Tryz.prog 66 #[.agg #[.int .i64 cpu, .int .i64 o, .int .i64 fl]] w fun e w' => ∃ g, e = .returned (.slice (some ⟨g, 0, none⟩) (zonesF fl).length (zonesF fl).length) ∧ Nums w' (some ⟨g, 0, none⟩) (zonesF fl).length (zonesF fl) ∧ w.heap.size ≤ g ∧ Below w.heap.size w w' := by
 have B0 := Below.refl w.heap.size w
 refine sx_enter (args := [_]) 7 Tryz.func66 rfl rfl rfl ?_
 refine vS (vR ?_); intro A f
 refine l_box f rfl rfl rfl rfl rfl ?_; clear f A; intro b1 W2 eb1 hb3 rb1 A f; dsimp only [Value.cells] at rb1
 have z_B0_b1 := B0.size; rw [eb1] at z_B0_b1
 replace B0 := Below.next B0 hb3
 revert A; refine vla (h:=vW (vS (vS (vR (vl3 (rowq rb1) (h:=?_)))))); intro A f
 refine l_callif _ f rfl rfl rfl (IsCall.mk' (cap := []) rfl rfl rfl) (pl rfl) (rqHas_c _ _ _ _ _) ?_ ?_
 ·clear f A; intro c4 W6 hb5 A f
  replace B0 := Below.next B0 hb5; replace rb1 := row_next rb1 hb5
  revert A; refine vW (vC (h:=vS (vR ?_)))
  obtain ⟨gz, hgz⟩ : ∃ g, g = W6.heap.size := ⟨_, rfl⟩
  have hgw := B0.size
  intro A f
  refine l_opR (R := fun v W => v = .slice (some ⟨gz, 0, none⟩) 1 1 ∧ Below W6.heap.size W6 W ∧ W.heap[gz]? = some (.cells #[.int .i64 0] 3 (0, 0))) f rfl rfl rfl ⟨_, _, bs_exec f rfl rfl (bs_z1 _), by rw [hgz], (Below.refl _ _).alloc (Nat.le_refl _) _, by rw [hgz]; show (Array.push _ _)[_]? = _; rw [Array.getElem?_push, if_pos rfl]⟩ ?_
  clear f A
  rintro _ W7 ⟨rfl, hb8, rgz⟩ A f
  replace B0 := Below.next B0 hb8; replace rb1 := row_next rb1 hb8
  revert A; refine vla (h:=vW (vE (vF ?_))); intro A f
  refine x_ret1 f rfl rfl ?_
  have e : zonesF fl = [0] := if_pos ((and_low hf).1.1 c4)
  rw [e]
  exact ⟨gz, rfl, ⟨rfl, by show 1 * 8 ≤ _; omega, fun i hi => ⟨gz, 0, rfl, by have hi' : i < 1 := hi; obtain rfl : i = 0 := (by omega); exact cell_of_row _ gz 0 _ _ _ rgz⟩⟩, by omega, B0⟩
 clear f A; intro c4 W6 hb5 A f
 replace B0 := Below.next B0 hb5; replace rb1 := row_next rb1 hb5
 revert A; refine vW (vD (h:=vK (vT (vS (vR ?_)))))
 obtain ⟨gz, hgz⟩ : ∃ g, g = W6.heap.size := ⟨_, rfl⟩
 have hgw := B0.size
 intro A f
 refine l_opR (R := fun v W => v = .slice (some ⟨gz, 0, none⟩) 2 2 ∧ Below W6.heap.size W6 W ∧ W.heap[gz]? = some (.cells #[.int .i64 1, .int .i64 0] 3 (0, 0))) f rfl rfl rfl ⟨_, _, bs_exec f rfl rfl (bs_z2 _), by rw [hgz], (Below.refl _ _).alloc (Nat.le_refl _) _, by rw [hgz]; show (Array.push _ _)[_]? = _; rw [Array.getElem?_push, if_pos rfl]⟩ ?_
 clear f A
 rintro _ W9 ⟨rfl, hb10, rgz⟩ A f
 replace B0 := Below.next B0 hb10; replace rb1 := row_next rb1 hb10
 revert A; refine vla (h:=vW (vE ?_)); intro A f
 refine x_ret1 f rfl rfl ?_
 have e : zonesF fl = [1, 0] := if_neg (fun h => c4 ((and_low hf).1.2 h))
 rw [e]
 refine ⟨gz, rfl, ⟨rfl, by show 2 * 8 ≤ _; omega, fun i hi => ⟨gz, 0, rfl, ?_⟩⟩, by omega, B0⟩
 have hi' : i < 2 := hi
 rcases (show i = 0 ∨ i = 1 by omega) with rfl | rfl
 ·exact cell_of_row _ gz 0 _ _ _ rgz
 exact cell_of_row _ gz 1 _ _ _ rgz
end Go.Proofs.YtjohdbiipeedkaaGreatDoor
namespace Go.Proofs.YtjohdbiipeedkaaGreatDoor.Kit
def pw (n : Int) : Int := ((2 ^ n.toNat : Nat) : Int)
theorem pw_0 : pw 0 = 1 := rfl
theorem pw_1 : pw 1 = 2 := rfl
theorem pw_2 : pw 2 = 4 := rfl
theorem pw_3 : pw 3 = 8 := rfl
theorem pw_4 : pw 4 = 16 := rfl
theorem pw_pos (n : Int) : 1 ≤ pw n := by
 unfold pw
 have := Nat.two_pow_pos n.toNat
 omega
def ordOk (o : Int) : Prop := 0 ≤ o ∧ o ≤ 4
theorem ord_cases {o : Int} (h : ordOk o) : (o = 0 ∧ pw o = 1) ∨ (o = 1 ∧ pw o = 2) ∨ (o = 2 ∧ pw o = 4) ∨ (o = 3 ∧ pw o = 8) ∨ (o = 4 ∧ pw o = 16) := by
 obtain ⟨h1, h2⟩ := h
 rcases (show o = 0 ∨ o = 1 ∨ o = 2 ∨ o = 3 ∨ o = 4 by omega) with rfl | rfl | rfl | rfl | rfl
 ·exact Or.inl ⟨rfl, rfl⟩
 ·exact Or.inr (Or.inl ⟨rfl, rfl⟩)
 ·exact Or.inr (Or.inr (Or.inl ⟨rfl, rfl⟩))
 ·exact Or.inr (Or.inr (Or.inr (Or.inl ⟨rfl, rfl⟩)))
 exact Or.inr (Or.inr (Or.inr (Or.inr ⟨rfl, rfl⟩)))
theorem pw_le {o : Int} (h : ordOk o) : pw o ≤ 16 := by rcases ord_cases h with ⟨_, e⟩ | ⟨_, e⟩ | ⟨_, e⟩ | ⟨_, e⟩ | ⟨_, e⟩ <;> omega
def blkIn (f t a o : Int) : Prop := ordOk o ∧ f ≤ a ∧ a ≤ t - 1 ∧ a % pw o = 0
def blkB (f t a o : Int) : Bool := inB o 0 4 && (inB a f (t - 1) && decide (a % pw o = 0))
theorem blkB_iff (f t a o : Int) : blkB f t a o = true ↔ blkIn f t a o := by
 unfold blkB blkIn ordOk
 simp only [Bool.and_eq_true, inB, decide_eq_true_eq]
 constructor
 ·rintro ⟨h1, h2, h3⟩; exact ⟨h1, h2.1, h2.2, h3⟩
 rintro ⟨h1, h2, h3, h4⟩; exact ⟨h1, ⟨h2, h3⟩, h4⟩
def typeOk (x : Int) : Prop := 0 ≤ x ∧ x ≤ 2
def besideP (p b : Bk) : Prop := b.o < 4 ∧ p.o = b.o ∧ p.a + pw b.o = b.a ∧ p.a % pw (b.o + 1) = 0
def FreeOk (f t : Int) : Int → Option Bk → List Bk → Prop
 | _, _, [] => True
 | lo, pv, b :: l => blkIn f t b.a b.o ∧ typeOk b.t ∧ lo ≤ b.a ∧ (∀ p, pv = some p → ¬ besideP p b) ∧ FreeOk f t (b.a + pw b.o) (some b) l
def lastOf : Option Bk → List Bk → Option Bk
 | pv, [] => pv
 | _, b :: l => lastOf (some b) l
def lowOf : Int → List Bk → Int
 | lo, [] => lo
 | _, b :: l => lowOf (b.a + pw b.o) l
theorem lastOf_snoc (pv : Option Bk) (l : List Bk) (b : Bk) : lastOf pv (l ++ [b]) = some b := by
 induction l generalizing pv with
 | nil => rfl
 | cons a l ih => exact ih _
theorem lowOf_snoc (lo : Int) (l : List Bk) (b : Bk) : lowOf lo (l ++ [b]) = b.a + pw b.o := by
 induction l generalizing lo with
 | nil => rfl
 | cons a l ih => exact ih _
theorem freeOk_snoc (f t lo : Int) (pv : Option Bk) (l : List Bk) (b : Bk) : FreeOk f t lo pv (l ++ [b]) ↔ FreeOk f t lo pv l ∧ blkIn f t b.a b.o ∧ typeOk b.t ∧ lowOf lo l ≤ b.a ∧ ∀ p, lastOf pv l = some p → ¬ besideP p b := by
 induction l generalizing lo pv with
 | nil => simp [FreeOk, lowOf, lastOf]
 | cons a l ih =>
  show _ ∧ _ ∧ _ ∧ _ ∧ FreeOk f t (a.a + pw a.o) (some a) (l ++ [b]) ↔ (_ ∧ _ ∧ _ ∧ _ ∧ FreeOk f t (a.a + pw a.o) (some a) l) ∧ _ ∧ _ ∧ lowOf (a.a + pw a.o) l ≤ b.a ∧ ∀ p, lastOf (some a) l = some p → ¬ besideP p b
  rw [ih]
  constructor
  ·rintro ⟨h1, h2, h3, h4, h5, h6⟩; exact ⟨⟨h1, h2, h3, h4, h5⟩, h6⟩
  rintro ⟨⟨h1, h2, h3, h4, h5⟩, h6⟩; exact ⟨h1, h2, h3, h4, h5, h6⟩
theorem freeOk_left {f t lo : Int} {pv : Option Bk} {l m : List Bk} (h : FreeOk f t lo pv (l ++ m)) : FreeOk f t lo pv l := by
 induction l generalizing lo pv with
 | nil => trivial
 | cons a l ih => exact ⟨h.1, h.2.1, h.2.2.1, h.2.2.2.1, ih h.2.2.2.2⟩
def newOk (f t : Int) : Prop := 0 ≤ f ∧ f ≤ t ∧ t ≤ 256 ∧ f % 16 = 0 ∧ t % 16 = 0
structure ZMay (z : Zn) : Prop where
 new : newOk z.f z.t
 len : 8 * (z.types.length : Int) = z.t - z.f
 ty : ∀ i, i < z.types.length → typeOk (z.types.getD i 0)
 free : FreeOk z.f z.t z.f none z.free
def newTypes (f t : Int) : List Int := List.replicate ((t - f) / 8).toNat 1
def newZ (f t : Int) : Zn := ⟨f, t, [], newTypes f t⟩
def freeN : List Bk → Int
 | [] => 0
 | b :: l => pw b.o + freeN l
theorem freeN_snoc (l : List Bk) (b : Bk) : freeN (l ++ [b]) = freeN l + pw b.o := by
 induction l with
 | nil => simp [freeN]
 | cons a l ih => simp only [List.cons_append, freeN, ih]; omega
theorem freeN_le {f t lo : Int} {pv : Option Bk} {l : List Bk} (h : FreeOk f t lo pv l) (ht : t % 16 = 0) (hlo : lo ≤ t) : 0 ≤ freeN l ∧ freeN l ≤ t - lo := by
 induction l generalizing lo pv with
 | nil => simp only [freeN]; omega
 | cons a l ih =>
  obtain ⟨⟨h1, h2, h3, h4⟩, _, h6, _, h7⟩ := h
  have hle : a.a + pw a.o ≤ t := by
   rcases ord_cases h1 with ⟨_, e⟩ | ⟨_, e⟩ | ⟨_, e⟩ | ⟨_, e⟩ | ⟨_, e⟩ <;> rw [e] at h4 ⊢ <;> omega
  have := ih h7 hle
  have := pw_pos a.o
  simp only [freeN]
  omega
theorem freeOk_count {f t lo : Int} {pv : Option Bk} {l : List Bk} (h : FreeOk f t lo pv l) (ht : t % 16 = 0) (hlo : lo ≤ t) : (l.length : Int) ≤ t - lo := by
 have h1 := (freeN_le h ht hlo).2
 have h2 : (l.length : Int) ≤ freeN l := by
  clear h h1
  induction l with
  | nil => simp [freeN]
  | cons a l ih => simp only [freeN, List.length_cons]; have := pw_pos a.o; omega
 omega
theorem freeOk_at {f t lo : Int} {pv : Option Bk} {l : List Bk} (h : FreeOk f t lo pv l) {k : Nat} (hk : k < l.length) {b : Bk} (hb : l.getD k .zero = b) :
    blkIn f t b.a b.o ∧ typeOk b.t ∧ lowOf lo (l.take k) ≤ b.a ∧ ∀ p, lastOf pv (l.take k) = some p → ¬ besideP p b := by
 have h1 : FreeOk f t lo pv (l.take (k + 1)) := by rw [← List.take_append_drop (k + 1) l] at h; exact freeOk_left h
 rw [take_getD l k hk hb, freeOk_snoc] at h1
 exact h1.2
def ovlP (l : List Bk) (a o : Int) : Prop := ∃ i, i < l.length ∧ (l.getD i .zero).a < a + pw o ∧ a < (l.getD i .zero).a + pw (l.getD i .zero).o
def ovl1 (E a : Int) (b : Bk) : Bool := decide (b.a < E ∧ a < b.a + pw b.o)
theorem ovl_any (l : List Bk) (a o : Int) : l.any (ovl1 (a + pw o) a) = true ↔ ovlP l a o := by
 rw [List.any_eq_true]
 constructor
 ·rintro ⟨x, hx, h⟩
  obtain ⟨i, hi, rfl⟩ := List.getElem_of_mem hx
  have := of_decide_eq_true h
  refine ⟨i, hi, ?_⟩
  rw [List.getD_eq_getElem?_getD, List.getElem?_eq_getElem hi]
  exact this
 rintro ⟨i, hi, h⟩
 rw [List.getD_eq_getElem?_getD, List.getElem?_eq_getElem hi] at h
 exact ⟨l[i], List.getElem_mem _, decide_eq_true h⟩
open Go Go.RowKit
structure Q4 where
 a : Value
 b : Value
 c : Value
 d : Value
def Q4.zero : Q4 := ⟨.int .i64 0, .int .i64 0, .int .i64 0, .int .i64 0⟩
def c4 : List Q4 → List Value
 | [] => []
 | x :: l => x.a :: x.b :: x.c :: x.d :: c4 l
theorem length_c4 (l : List Q4) : (c4 l).length = l.length * 4 := by
 induction l with
 | nil => rfl
 | cons r l ih => simp only [c4, List.length_cons, ih]; omega
theorem c4_append (l m : List Q4) : c4 (l ++ m) = c4 l ++ c4 m := by
 induction l with
 | nil => rfl
 | cons r l ih => simp [c4, ih]
theorem c4_get (l : List Q4) (i : Nat) (h : i < l.length) : (c4 l)[i * 4]? = some (l.getD i .zero).a ∧ (c4 l)[i * 4 + 1]? = some (l.getD i .zero).b ∧ (c4 l)[i * 4 + 2]? = some (l.getD i .zero).c ∧ (c4 l)[i * 4 + 3]? = some (l.getD i .zero).d := by
 induction l generalizing i with
 | nil => simp at h
 | cons r l ih =>
  cases i with
  | zero => simp [c4]
  | succ i =>
   have := ih i (by simpa using h)
   rw [Nat.succ_mul]
   simpa [c4] using this
def Q4.One (x : Q4) : Prop := x.a.oneCell' = true ∧ x.b.oneCell' = true ∧ x.c.oneCell' = true ∧ x.d.oneCell' = true
theorem c4_oneCell (l : List Q4) (h : ∀ x ∈ l, x.One) : ∀ u ∈ c4 l, u.oneCell' = true := by
 induction l with
 | nil => intro u hu; simp [c4] at hu
 | cons r l ih =>
  intro u hu
  obtain ⟨h0, h1, h2, h3⟩ := h r (by simp)
  simp only [c4, List.mem_cons] at hu
  rcases hu with rfl | rfl | rfl | rfl | hu
  ·exact h0
  ·exact h1
  ·exact h2
  ·exact h3
  exact ih (fun x hx => h x (by simp [hx])) u hu
theorem c4_set (l : List Q4) (i : Nat) (h : i < l.length) (x : Q4) : ((((c4 l).set (i * 4) x.a).set (i * 4 + 1) x.b).set (i * 4 + 2) x.c).set (i * 4 + 3) x.d = c4 (l.set i x) := by
 induction l generalizing i with
 | nil => simp at h
 | cons r l ih =>
  cases i with
  | zero => simp [c4]
  | succ i =>
   have := ih i (by simpa using h)
   rw [Nat.succ_mul]
   simpa [c4] using this
theorem c4_set3 (l : List Q4) (i : Nat) (h : i < l.length) (v : Value) : (c4 l).set (i * 4 + 3) v = c4 (l.set i ⟨(l.getD i .zero).a, (l.getD i .zero).b, (l.getD i .zero).c, v⟩) := by
 induction l generalizing i with
 | nil => simp at h
 | cons r l ih =>
  cases i with
  | zero => simp [c4]
  | succ i =>
   have := ih i (by simpa using h)
   rw [Nat.succ_mul]
   simpa [c4] using this
def C4At (w : World) (ao : Option Addr) (l : List Q4) : Prop :=
 ∀ i, i < l.length → ∃ b off, ao = some ⟨b, off, none⟩ ∧ w.cell? ⟨b, off + i * 4, none⟩ = some (l.getD i .zero).a ∧ w.cell? ⟨b, off + i * 4 + 1, none⟩ = some (l.getD i .zero).b ∧
  w.cell? ⟨b, off + i * 4 + 2, none⟩ = some (l.getD i .zero).c ∧ w.cell? ⟨b, off + i * 4 + 3, none⟩ = some (l.getD i .zero).d
theorem C4At.below {w w' : World} {ao : Option Addr} {l : List Q4} (h : C4At w ao l) (hb : Below w.heap.size w w') : C4At w' ao l := by
 intro i hi
 obtain ⟨b, off, ha, h1, h2, h3, h4⟩ := h i hi
 exact ⟨b, off, ha, keep h1 hb, keep h2 hb, keep h3 hb, keep h4 hb⟩
theorem C4At.but {w w' : World} {ao : Option Addr} {l : List Q4} {c : Nat} (h : C4At w ao l) (hb : But c w w') (hne : ∀ a, ao = some a → a.block ≠ c) : C4At w' ao l := by
 intro i hi
 obtain ⟨b, off, ha, h1, h2, h3, h4⟩ := h i hi
 have := hne _ ha
 exact ⟨b, off, ha, hb.cell h1 this, hb.cell h2 this, hb.cell h3 this, hb.cell h4 this⟩
theorem C4At.nil (w : World) (ao : Option Addr) : C4At w ao [] := fun i hi => absurd hi (by simp)
theorem c4_of_owns {w : World} {base : Nat} {e : TypeId} {ao : Option Addr} {n cap : Nat} {l : List Q4} (h : w.ownsRow base e 4 (.slice ao n cap) n (c4 l)) : C4At w ao l := by
 intro i hi
 have hl := h.1
 rw [length_c4] at hl
 obtain ⟨g0, g1, g2, g3⟩ := c4_get l i hi
 rcases h.2 with ⟨h', h0⟩ | ⟨g, cap', cur, h', _, hg, _, _, _, htake⟩
 ·omega
 simp only [Value.slice.injEq] at h'
 obtain ⟨rfl, _, rfl⟩ := h'
 refine ⟨g, 0, rfl, ?_, ?_, ?_, ?_⟩
 ·rw [Nat.zero_add, h.cellAt (i * 4) (by omega), g0]
 ·rw [Nat.zero_add, h.cellAt (i * 4 + 1) (by omega), g1]
 ·rw [Nat.zero_add, h.cellAt (i * 4 + 2) (by omega), g2]
 rw [Nat.zero_add, h.cellAt (i * 4 + 3) (by omega), g3]
theorem c4owns_len {w : World} {base : Nat} {e : TypeId} {v : Value} {n : Nat} {l : List Q4} (h : w.ownsRow base e 4 v n (c4 l)) : l.length = n := by have := h.1; rw [length_c4] at this; omega
structure Zc where
 z : Zn
 fo : Option Addr
 fn : Nat
 fc : Nat
 to_ : Option Addr
 tn : Nat
 tc : Nat
def Zc.zero : Zc := ⟨⟨0, 0, [], []⟩, none, 0, 0, none, 0, 0⟩
def Zc.q (x : Zc) : Q4 := ⟨.int .i64 x.z.f, .int .i64 x.z.t, .slice x.fo x.fn x.fc, .slice x.to_ x.tn x.tc⟩
def Zc.At (w : World) (x : Zc) : Prop := ZnAt w x.fo x.fn x.to_ x.tn x.z
theorem Zc.one (x : Zc) : x.q.One := ⟨rfl, rfl, rfl, rfl⟩
structure Ls where
 c : Int
 z : Int
 t : Int
 pages : List Int
structure Lc where
 l : Ls
 po : Option Addr
 pn : Nat
 pc : Nat
def Lc.zero : Lc := ⟨⟨0, 0, 0, []⟩, none, 0, 0⟩
def Lc.q (x : Lc) : Q4 := ⟨.int .i64 x.l.c, .int .i64 x.l.z, .int .i64 x.l.t, .slice x.po x.pn x.pc⟩
def Lc.At (w : World) (x : Lc) : Prop := Nums w x.po x.pn x.l.pages
theorem Lc.one (x : Lc) : x.q.One := ⟨rfl, rfl, rfl, rfl⟩
theorem Zc.At.below {w w' : World} {x : Zc} (h : x.At w) (hb : Below w.heap.size w w') : x.At w' := ZnAt.below h hb
theorem Lc.At.below {w w' : World} {x : Lc} (h : x.At w) (hb : Below w.heap.size w w') : x.At w' := Nums.below h hb
theorem getD_map {α β : Type} (l : List α) (f : α → β) (i : Nat) (d : α) (e : β) (h : i < l.length) : (l.map f).getD i e = f (l.getD i d) := by
 simp [List.getD_eq_getElem?_getD, h]
structure Zons (w : World) (ao : Option Addr) (n : Nat) (l : List Zc) : Prop where
 len : l.length = n
 reach : n * 64 ≤ 140737488351232
 cells : C4At w ao (l.map Zc.q)
 at_ : ∀ x ∈ l, x.At w
structure Lsts (w : World) (ao : Option Addr) (n : Nat) (l : List Lc) : Prop where
 len : l.length = n
 reach : n * 48 ≤ 140737488351232
 cells : C4At w ao (l.map Lc.q)
 at_ : ∀ x ∈ l, x.At w
theorem Zons.below {w w' : World} {ao : Option Addr} {n : Nat} {l : List Zc} (h : Zons w ao n l) (hb : Below w.heap.size w w') : Zons w' ao n l := ⟨h.len, h.reach, h.cells.below hb, fun x hx => (h.at_ x hx).below hb⟩
theorem Lsts.below {w w' : World} {ao : Option Addr} {n : Nat} {l : List Lc} (h : Lsts w ao n l) (hb : Below w.heap.size w w') : Lsts w' ao n l := ⟨h.len, h.reach, h.cells.below hb, fun x hx => (h.at_ x hx).below hb⟩
theorem Zons.nil (w : World) : Zons w none 0 [] := ⟨rfl, by omega, C4At.nil _ _, fun _ h => by cases h⟩
theorem Lsts.nil (w : World) : Lsts w none 0 [] := ⟨rfl, by omega, C4At.nil _ _, fun _ h => by cases h⟩
theorem getD_mem {α : Type} {l : List α} {i : Nat} {d : α} (h : i < l.length) : l.getD i d ∈ l := by
 rw [List.getD_eq_getElem?_getD, List.getElem?_eq_getElem h]; exact List.getElem_mem _
theorem Zons.at {w : World} {ao : Option Addr} {n : Nat} {l : List Zc} (h : Zons w ao n l) (k : Nat) (hk : k < n) : ∃ b off z fo fn fc to_ tn tc, ao = some ⟨b, off, none⟩ ∧ w.cell? ⟨b, off + k * 4, none⟩ = some (.int .i64 z.f) ∧ w.cell? ⟨b, off + k * 4 + 1, none⟩ = some (.int .i64 z.t) ∧
    w.cell? ⟨b, off + k * 4 + 2, none⟩ = some (.slice fo fn fc) ∧ w.cell? ⟨b, off + k * 4 + 3, none⟩ = some (.slice to_ tn tc) ∧ ZnAt w fo fn to_ tn z ∧ Hid (l.getD k .zero = ⟨z, fo, fn, fc, to_, tn, tc⟩) := by
 have hk' : k < l.length := by have := h.len; omega
 obtain ⟨b, off, ha, h0, h1, h2, h3⟩ := h.cells k (by simpa using hk')
 rw [getD_map l Zc.q k .zero _ hk'] at h0 h1 h2 h3
 have hat := h.at_ _ (getD_mem (d := Zc.zero) hk')
 exact ⟨b, off, _, _, _, _, _, _, _, ha, h0, h1, h2, h3, hat, rfl⟩
theorem Lsts.at {w : World} {ao : Option Addr} {n : Nat} {l : List Lc} (h : Lsts w ao n l) (k : Nat) (hk : k < n) : ∃ b off c z t pages po pn pc, ao = some ⟨b, off, none⟩ ∧ w.cell? ⟨b, off + k * 4, none⟩ = some (.int .i64 c) ∧ w.cell? ⟨b, off + k * 4 + 1, none⟩ = some (.int .i64 z) ∧
    w.cell? ⟨b, off + k * 4 + 2, none⟩ = some (.int .i64 t) ∧ w.cell? ⟨b, off + k * 4 + 3, none⟩ = some (.slice po pn pc) ∧ Nums w po pn pages ∧ Hid (l.getD k .zero = ⟨⟨c, z, t, pages⟩, po, pn, pc⟩) := by
 have hk' : k < l.length := by have := h.len; omega
 obtain ⟨b, off, ha, h0, h1, h2, h3⟩ := h.cells k (by simpa using hk')
 rw [getD_map l Lc.q k .zero _ hk'] at h0 h1 h2 h3
 have hat := h.at_ _ (getD_mem (d := Lc.zero) hk')
 exact ⟨b, off, _, _, _, _, _, _, _, ha, h0, h1, h2, h3, hat, rfl⟩
structure Hp where
 zones : List Zn
 mins : List Int
 cpus : Int
 lists : List Ls
 live : List Bk
structure Hx where
 zs : List Zc
 zo : Option Addr
 zn : Nat
 zc : Nat
 mins : List Int
 mo : Option Addr
 mn : Nat
 mc : Nat
 cpus : Int
 ls : List Lc
 lo : Option Addr
 ln : Nat
 lc : Nat
 live : List Bk
 vo : Option Addr
 vn : Nat
 vc : Nat
def Hx.hp (x : Hx) : Hp := ⟨x.zs.map (·.z), x.mins, x.cpus, x.ls.map (·.l), x.live⟩
structure Hx.At (w : World) (x : Hx) : Prop where
 zones : Zons w x.zo x.zn x.zs
 mins : Nums w x.mo x.mn x.mins
 lists : Lsts w x.lo x.ln x.ls
 live : Blks w x.vo x.vn x.live
theorem Hx.At.below {w w' : World} {x : Hx} (h : x.At w) (hb : Below w.heap.size w w') : x.At w' := ⟨h.zones.below hb, h.mins.below hb, h.lists.below hb, h.live.below hb⟩
structure HBox (W : World) (b : Nat) (x y u v t : Value) : Prop where
 c0 : W.cell? ⟨b, 0, none⟩ = some x
 c1 : W.cell? ⟨b, 1, none⟩ = some y
 c2 : W.cell? ⟨b, 2, none⟩ = some u
 c3 : W.cell? ⟨b, 3, none⟩ = some v
 c4 : W.cell? ⟨b, 4, none⟩ = some t
 z0 : W.frozen? ⟨b, 0, none⟩ = false
 z1 : W.frozen? ⟨b, 1, none⟩ = false
 z2 : W.frozen? ⟨b, 2, none⟩ = false
 z3 : W.frozen? ⟨b, 3, none⟩ = false
 z4 : W.frozen? ⟨b, 4, none⟩ = false
theorem HBox.lt {W : World} {b : Nat} {x y u v t : Value} (h : HBox W b x y u v t) : b < W.heap.size := by
 have := World.block_lt_of_cell? W _ h.c0
 exact this
theorem HBox.of_block {W W' : World} {b : Nat} {x y u v t : Value} (h : HBox W b x y u v t) (hb : W'.heap[b]? = W.heap[b]?) : HBox W' b x y u v t :=
 ⟨(World.cell?_of_block (a := ⟨b, 0, none⟩) hb).trans h.c0, (World.cell?_of_block (a := ⟨b, 1, none⟩) hb).trans h.c1, (World.cell?_of_block (a := ⟨b, 2, none⟩) hb).trans h.c2, (World.cell?_of_block (a := ⟨b, 3, none⟩) hb).trans h.c3, (World.cell?_of_block (a := ⟨b, 4, none⟩) hb).trans h.c4,
  (World.frozen?_of_block (a := ⟨b, 0, none⟩) hb).trans h.z0, (World.frozen?_of_block (a := ⟨b, 1, none⟩) hb).trans h.z1, (World.frozen?_of_block (a := ⟨b, 2, none⟩) hb).trans h.z2, (World.frozen?_of_block (a := ⟨b, 3, none⟩) hb).trans h.z3, (World.frozen?_of_block (a := ⟨b, 4, none⟩) hb).trans h.z4⟩
theorem HBox.below {W W' : World} {b : Nat} {x y u v t : Value} (h : HBox W b x y u v t) (hb : Below W.heap.size W W') : HBox W' b x y u v t := h.of_block (hb.block b h.lt)
theorem HBox.but {W W' : World} {b c : Nat} {x y u v t : Value} (h : HBox W b x y u v t) (hb : But c W W') (hne : b ≠ c) : HBox W' b x y u v t := h.of_block (hb.block b h.lt hne)
theorem hbox_of_row {W : World} {x : Nat} {a b c d e : Value} {t : TypeId} (h : W.heap[x]? = some (.cells #[a, b, c, d, e] t (0, 0))) : HBox W x a b c d e := by
 have hc : ∀ i : Nat, W.cell? ⟨x, i, none⟩ = (#[a, b, c, d, e] : Array Value)[i]? := fun i => by simp [World.cell?, h]
 have hf : ∀ i : Nat, W.frozen? ⟨x, i, none⟩ = false := fun i => by simp [World.frozen?, h]
 exact ⟨by rw [hc]; rfl, by rw [hc]; rfl, by rw [hc]; rfl, by rw [hc]; rfl, by rw [hc]; rfl, hf 0, hf 1, hf 2, hf 3, hf 4⟩
theorem hbox_new (W : World) (x y u v t : Value) (ty : TypeId) : HBox (W.alloc (.cells #[x, y, u, v, t] ty)) W.heap.size x y u v t :=
 hbox_of_row (t := ty) (by show (W.heap.push _)[W.heap.size]? = _; rw [Array.getElem?_push, if_pos rfl])
theorem but5 (W : World) (b : Nat) (x y u v t : Value) : But b W (((((W.setCell ⟨b, 0, none⟩ x).setCell ⟨b, 1, none⟩ y).setCell ⟨b, 2, none⟩ u).setCell ⟨b, 3, none⟩ v).setCell ⟨b, 4, none⟩ t) :=
 ((((((But.refl b W).setCell x).setCell y).setCell u).setCell v).setCell t)
theorem HBox.set5 {W : World} {b : Nat} {x y u v t : Value} (h : HBox W b x y u v t) (x' y' u' v' t' : Value) : HBox (((((W.setCell ⟨b, 0, none⟩ x').setCell ⟨b, 1, none⟩ y').setCell ⟨b, 2, none⟩ u').setCell ⟨b, 3, none⟩ v').setCell ⟨b, 4, none⟩ t') b x' y' u' v' t' := by
 have o : ∀ (X : World) (i j : Nat) (r : Value), i ≠ j → (X.setCell ⟨b, i, none⟩ r).cell? ⟨b, j, none⟩ = X.cell? ⟨b, j, none⟩ := fun X i j r hij => World.cell?_setCell_other _ _ _ _ (by intro g; cases g; exact hij rfl)
 refine ⟨?_, ?_, ?_, ?_, ?_, by simpa using h.z0, by simpa using h.z1, by simpa using h.z2, by simpa using h.z3, by simpa using h.z4⟩
 ·rw [o _ 4 0 _ (by decide), o _ 3 0 _ (by decide), o _ 2 0 _ (by decide), o _ 1 0 _ (by decide)]
  exact World.cell?_setCell_same _ _ _ h.c0
 ·rw [o _ 4 1 _ (by decide), o _ 3 1 _ (by decide), o _ 2 1 _ (by decide)]
  exact World.cell?_setCell_same _ _ _ ((o _ 0 1 _ (by decide)).trans h.c1)
 ·rw [o _ 4 2 _ (by decide), o _ 3 2 _ (by decide)]
  exact World.cell?_setCell_same _ _ _ ((o _ 1 2 _ (by decide)).trans ((o _ 0 2 _ (by decide)).trans h.c2))
 ·rw [o _ 4 3 _ (by decide)]
  exact World.cell?_setCell_same _ _ _ ((o _ 2 3 _ (by decide)).trans ((o _ 1 3 _ (by decide)).trans ((o _ 0 3 _ (by decide)).trans h.c3)))
 exact World.cell?_setCell_same _ _ _ ((o _ 3 4 _ (by decide)).trans ((o _ 2 4 _ (by decide)).trans ((o _ 1 4 _ (by decide)).trans ((o _ 0 4 _ (by decide)).trans h.c4))))
end Go.Proofs.YtjohdbiipeedkaaGreatDoor.Kit
