/-
  OWN TEXTS.
-/
import Derived.Test.YtjohdbiipeedkaaGreatDoorPart14
set_option maxRecDepth 10000
set_option maxHeartbeats 4000000
namespace Go.Proofs.YtjohdbiipeedkaaGreatDoor
open Go Go.RowKit Go.Proofs.YtjohdbiipeedkaaGreatDoor.Kit
def totN (h : Int → Nat) : Nat → Nat
 | 0 => 0
 | n + 1 => totN h n + h n
theorem totN_congr {h g : Int → Nat} : ∀ (n : Nat), (∀ i : Nat, i < n → h i = g i) → totN h n = totN g n
 | 0, _ => rfl
 | n + 1, e => by unfold totN; rw [totN_congr n (fun i hi => e i (by omega)), e n (by omega)]
theorem totN_add (h g : Int → Nat) : ∀ n : Nat, totN (fun p => h p + g p) n = totN h n + totN g n
 | 0 => rfl
 | n + 1 => by unfold totN; rw [totN_add h g n]; omega
theorem totN_zero : ∀ n : Nat, totN (fun _ => 0) n = 0
 | 0 => rfl
 | n + 1 => by unfold totN; rw [totN_zero n]
theorem totN_hit (a o : Int) (ha : 0 ≤ a) : ∀ n : Nat, (totN (hit a o) n : Int) = (if (n : Int) ≤ a then 0 else if (n : Int) ≤ a + pw o then n - a else pw o)
 | 0 => by
  have := pw_pos o
  rw [if_pos (by omega)]; rfl
 | n + 1 => by
  have hp := pw_pos o
  have ih := totN_hit a o ha n
  unfold totN
  have e : hit a o (n : Int) = if a ≤ (n : Int) ∧ (n : Int) < a + pw o then 1 else 0 := rfl
  rw [e]
  push_cast
  rw [ih]
  split <;> split <;> (try split) <;> (try split) <;> (try split) <;> omega
theorem freeN_app (l m : List Bk) : freeN (l ++ m) = freeN l + freeN m := by
 induction l with
 | nil => simp [freeN]
 | cons b l ih => simp only [List.cons_append, freeN, ih]; omega
theorem freeN_nn (l : List Bk) : 0 ≤ freeN l := by
 induction l with
 | nil => simp [freeN]
 | cons b l ih => have := pw_pos b.o; simp only [freeN]; omega
theorem totN_cnt {l : List Bk} (h : ∀ b ∈ l, InP b) : (totN (Kit.cnt l) 256 : Int) = freeN l := by
 induction l with
 | nil => rw [totN_congr (g := fun _ => 0) 256 (fun _ _ => rfl), totN_zero]; rfl
 | cons b l ih =>
  have e := totN_add (hit b.a b.o) (Kit.cnt l) 256
  have e1 : totN (Kit.cnt (b :: l)) 256 = totN (fun p => hit b.a b.o p + Kit.cnt l p) 256 := totN_congr 256 (fun _ _ => rfl)
  have hb := h b List.mem_cons_self
  have e2 := totN_hit b.a b.o hb.2.1 256
  have hp := pw_pos b.o
  have := hb.2.2
  rw [if_neg (by omega)] at e2
  rw [e1, e]
  push_cast
  rw [ih (fun c hc => h c (List.mem_cons_of_mem _ hc)), e2]
  show _ = pw b.o + freeN l
  split <;> omega
def sumP : List (Int × Int) → Int
 | [] => 0
 | x :: l => pw x.2 + sumP l
def zonesN (H : Hp) : Int := freeN (H.zones.flatMap (·.free))
def listsN (H : Hp) : Int := ((H.lists.flatMap (·.pages)).length : Nat)
theorem raws_below {w w' : World} {ao : Option Addr} {n cap : Nat} {l : List Raw4} (h : IsRaws w ao n cap l) (hb : Below w.heap.size w w') : IsRaws w' ao n cap l := ⟨h.len, h.le, h.reach, h.at_.below hb, h.wf⟩
theorem raws_none (w : World) : IsRaws w none 0 0 [] := ⟨rfl, Nat.le_refl _, by omega, RawsAt.nil _ _, fun i hi => absurd hi (Nat.not_lt_zero i)⟩
theorem su_new (a b c : Int) : newOk 0 (16 * (pickN a 9 : Int)) ∧ newGood (pickN b 12 : Int) (1 + (pickN c 4 : Int)) ∧ (1 + (pickN c 4 : Int)) = ((1 + pickN c 4 : Nat) : Int) := by
 have h1 := pickN_lt a 9 (by omega)
 have h2 := pickN_lt b 12 (by omega)
 have h3 := pickN_lt c 4 (by omega)
 refine ⟨by unfold newOk; omega, ⟨by omega, by omega⟩, by omega⟩
theorem su_drawn (a b c : Int) : MayP (drawnAll (freeH (suM a b c) (suR a b c))) := drawnAll_may (by have := su_few a b c; omega)
def cntP : List (Int × Int) → Int → Nat
 | [], _ => 0
 | x :: l, p => hit x.1 x.2 p + cntP l p
theorem cntP_perm {l m : List (Int × Int)} (h : l.Perm m) (p : Int) : cntP l p = cntP m p := by
 induction h with
 | nil => rfl
 | cons x _ ih => simp only [cntP, ih]
 | swap x y l => simp only [cntP]; omega
 | trans _ _ i1 i2 => exact i1.trans i2
theorem cnt_pr (l : List Bk) (p : Int) : Kit.cnt l p = cntP (l.map prB) p := by
 induction l with
 | nil => rfl
 | cons b l ih => simp only [List.map_cons, cntP, ← ih]; rfl
theorem tells_c (w : World) (hT : TabAt w) :
    Calls Tryz.prog 16 #[] w fun e w' => e = .returned (.bool true) ∧ Below w.heap.size w w' := by
 have B0 := Below.refl w.heap.size w
 refine sx_enter (args := []) 17 Tryz.func16 rfl rfl rfl ?_
 refine vS (vR (vla (h:=vW (vS (vR ?_))))); intro A f
 refine l_call f rfl rfl rfl (IsCall.mk' (cap := []) rfl rfl rfl) (pl rfl) (setup_c _ 0 0 0 rfl rfl rfl) ?_
 clear f A
 rintro _ W1 ⟨gm, gr, rfl, hm, hr, hb2⟩
 refine ⟨_, rfl, ?_⟩
 intro A f
 replace B0 := Below.next B0 hb2
 refine l_call f rfl rfl rfl (IsCall.mk' (cap := []) rfl rfl rfl) (pl rfl) (paged_c _ none 0 0 0 [] (raws_none _) (some ⟨gm, 0, none⟩) 2 2 (suM 0 0 0) (some ⟨gr, 0, none⟩) 2 2 (suR 0 0 0) hm hr ⟨suM_may 0 0 0, suR_may 0 0 0⟩ _ rfl (su_drawn 0 0 0) (16 * (pickN 0 9 : Int)) (pickN 0 12 : Int) (1 + (pickN 0 4 : Int)) 0 (1 + pickN 0 4) (su_new 0 0 0).2.2 (su_new 0 0 0).1 (su_new 0 0 0).2.1 (hT.below B0)) ?_
 clear f A
 rintro _ W3 ⟨H, y, aw, vo, vn, vc, rfl, hNH, hI, hz, hRc, hb4⟩
 refine ⟨_, rfl, ?_⟩
 intro A f
 replace B0 := Below.next B0 hb4; replace hm := hm.below hb4; replace hr := hr.below hb4
 have hzn : y.zn = 2 := by have h1 := hI.at_.zones.len; have h2 := hI.may.zs.n; have e : y.hp.zones.length = y.zs.length := (by show (y.zs.map _).length = _; rw [List.length_map]); omega
 revert A; refine vlm (h:=vle (h:=vle (h:=vle (h:=?_)))); intro A f
 refine l_as (z := .agg #[.slice none 0 0, .slice none 0 0, .int .i64 0, .slice none 0 0, .slice none 0 0]) f rfl rfl rfl rfl (by kernel_rfl) rfl rfl (fun _ => rfl) (fun _ => rfl) rfl (by intro u hu; simp [Value.cells] at hu; rcases hu with rfl | rfl | rfl | rfl | rfl <;> rfl) ?_; clear f A; intro b5 W6 eb5 hb7 rb5 A f
 dsimp only [Value.cells] at rb5
 have hpb5 := hb7
 have z_B0_b5 := B0.size; rw [eb5] at z_B0_b5
 replace B0 := Below.next B0 hb7
 revert A; refine vla (h:=vla (h:=vW (vS (vR (vlm (h:=vlm (h:=vlf (h:=vl1 (rowq rb5) (h:=vlz (h:=vlb (y_gtr rfl rfl rfl) (h:=?_) (g:=?_)))))))))))
 ·intro c8
  refine vlp (h:=vla (h:=vW (vE ?_))); intro A f
  refine x_ret1 f rfl rfl ?_
  exact ⟨rfl, B0⟩
 intro c8; exfalso; omega
end Go.Proofs.YtjohdbiipeedkaaGreatDoor
