/-
  OWN TEXTS, bundled: RefTkT, RefTkS, RefTkE, RefTkQ.
-/
import Derived.Test.YtpfafhgllabhbaaDoorBuddyTakesPart10
import Derived.Test.YtpfafhgllabhbaaDoorBuddyTakesPart11
import Derived.Test.YtpfafhgllabhbaaDoorBuddyTakesPart7
import Derived.Deep.RegionHeld3

/-
  OWN TEXT. The document's answer: TakenOf, from the call of 'without' on.
-/
namespace Go.Proofs.YtpfafhgllabhbaaDoor
open Go Go.RowKit Go.Proofs.YtpfafhgllabhbaaDoor.Kit

def seqR : Code → Code
  | .seq _ b => b
  | c => c
noncomputable def takenTail : Code := seqR (seqR (seqR (seqR (seqR (seqR (seqR (seqR (seqR (seqR ((Tryd.f7.body).getD .skip))))))))))

set_option maxRecDepth 10000 in
set_option maxHeartbeats 16000000 in
theorem takenOf_tail (x0 x2 x3 x4 x5 x7 x8 x11 x12 x13 x14 x15 x16 x17 x18 x19 x20 x21 x22 x23 x24 x25 x26 x27 x28 x29 x30 x31 x32 x33 x34 x35 x36 x37 x38 x39 x40 x41 x42 x43 x44 x45 x46 x47 x48 x49 x50 x51 x52 x53 x54 x55 x56 x57 x58 x59 x60 x61 x62 x63 x64 x65 x66 x67 x68 x69 x70 x71 x72 x73 x74 x75 x76 x77 x78 x79 x80 x81 x82 x83 x84 x85 x86 x87 x88 x89 x90 x91 x92 x93 x94 x95 x96 x97 x98 x99 x100 x101 x102 x103 x104 x105 x106 x107 x108 x109 x110 x111 x112 x113 x114 x115 x116 x117 x118 x119 x120 x121 x122 x123 x124 x125 x126 x127 x128 x129 x130 x131 x132 x133 x134 x135 x136 x137 x138 x139 x140 x141 x142 x143 x144 x145 x146 x147 x148 x149 x150 x151 x152 x153 x154 x155 x156 x157 x158 x159 x160 x161 x162 x163 x164 x165 x166 x167 x168 x169 x170 x171 x172 x173 x174 x175 x176 x177 x178 x179 x180 x181 x182 x183 x184 x185 x186 x187 x188 x189 x190 x191 x192 x193 x194 x195 x196 : Value) (w wr : World) (ob bb : Nat) (zf zt : Int) (xo : Option Addr) (fn xc : Nat) (yo : Option Addr) (tn yc : Nat) (fr : List Bk) (ty : List Int) (q : Bk) (o : Int) (Q : Ending → World → Prop)
    (J : TkI w ob bb zf zt xo fn xc yo tn yc fr ty q wr) (ho0 : 0 ≤ o) (hqo : o ≤ q.o) (q4 : q.o ≤ 4) (qa1 : 0 ≤ q.a) (qa2 : q.a ≤ 256) (hfn : fn ≤ 256) (htn : tn ≤ 256)
    (hQ : ∀ e w', RetZone3 w.heap.size w' ⟨zf, zt, putH q.a q.t o (q.o - o).toNat (dropB fr q.a q.o), ty⟩ q.a e → Below w.heap.size w w' → Q e w') :
    Code.wp Tryd.prog takenTail (bodyPost Tryd.prog Tryd.f7 Q) ⟨#[x0, .int .i64 o, x2, x3, x4, x5, .pointer (some ⟨w.heap.size + 1, 0, none⟩), x7, x8, .pointer (some ⟨ob, 0, none⟩), .pointer (some ⟨bb, 0, none⟩), x11, x12, x13, x14, x15, x16, x17, x18, x19, x20, x21, x22, x23, x24, x25, x26, x27, x28, x29, x30, x31, x32, x33, x34, x35, x36, x37, x38, x39, x40, x41, x42, x43, x44, x45, x46, x47, x48, x49, x50, x51, x52, x53, x54, x55, x56, x57, x58, x59, x60, x61, x62, x63, x64, x65, x66, x67, x68, x69, x70, x71, x72, x73, x74, x75, x76, x77, x78, x79, x80, x81, x82, x83, x84, x85, x86, x87, x88, x89, x90, x91, x92, x93, x94, x95, x96, x97, x98, x99, x100, x101, x102, x103, x104, x105, x106, x107, x108, x109, x110, x111, x112, x113, x114, x115, x116, x117, x118, x119, x120, x121, x122, x123, x124, x125, x126, x127, x128, x129, x130, x131, x132, x133, x134, x135, x136, x137, x138, x139, x140, x141, x142, x143, x144, x145, x146, x147, x148, x149, x150, x151, x152, x153, x154, x155, x156, x157, x158, x159, x160, x161, x162, x163, x164, x165, x166, x167, x168, x169, x170, x171, x172, x173, x174, x175, x176, x177, x178, x179, x180, x181, x182, x183, x184, x185, x186, x187, x188, x189, x190, x191, x192, x193, x194, x195, x196], []⟩ wr := by
  conv => arg 2; whnf
  have d2 := J.box.c2
  have hz2 := J.box.z2
  obtain ⟨u0, u1, u2, _, _, _⟩ := id J.tb
  have hBl := blks_own J.own (by omega)
  have lob := J.box.lt
  have lbb : bb < wr.heap.size := by have := World.block_lt_of_cell? wr _ u0; exact this
  have lto : ∀ a, yo = some a → a.block < wr.heap.size := fun a ha => by
    rcases J.typ.2 with ⟨e1, _⟩ | ⟨g, cp, cur, e1, _, hg, _⟩
    · simp only [Value.slice.injEq] at e1
      rw [e1.1] at ha
      cases ha
    · simp only [Value.slice.injEq] at e1
      rw [e1.1] at ha
      cases ha
      exact (Array.getElem?_eq_some_iff.1 hg).1
  have hob1 := J.ob1
  go_wp2_with fail
  go_at_call 25
  refine (without_any wr xo fn xc fr q.a q.o hBl).mono ?_
  rintro e w5 ⟨bo, m, c, rfl, ow, hb5⟩
  have J5 := J.below hb5
  have d2' := J5.box.c2
  have z2' := J5.box.z2
  have hml : m ≤ 256 := by have h1 := bowns_len ow; have h2 := dropB_len fr q.a q.o; have h3 := hBl.len; omega
  have J6 := J5.setFree (owns_weaken ow (by omega)) (fun a ha => by have := owns_fresh ow a ha; omega) (fun a a' ha ha' => by have := owns_fresh ow a ha; have := lto a' ha'; omega)
  obtain ⟨W6, hW6⟩ : ∃ W6, w5.setCell ⟨ob, 2, none⟩ (.slice bo m c) = W6 := ⟨_, rfl⟩
  rw [hW6] at J6
  have HW6 : Hid _ := hW6
  have r1 := J6.tb.c1
  have hw0 : IntKind.i64.wrap (q.o - 1) = q.o - 1 := IntWalk.i64_in _ (by omega)
  obtain ⟨FIN, hFIN⟩ : ∃ FIN, putH q.a q.t o (q.o - o).toNat (dropB fr q.a q.o) = FIN := ⟨_, rfl⟩
  have HFN : Hid _ := hFIN
  clear hW6 hFIN J5 J hBl d2 ow hb5 lto
  go_wp2_with (rw [HW6.out])
  clear HW6 r1 d2' z2' u0 u1 u2
  go_loopw [20] (fun ov wr => ∃ (k : Nat) (O : Int) (L : List Bk) (po : Option Addr) (pn pc : Nat), ov = .int .i64 O ∧ Hid (O = o + k - 1) ∧ o + (k : Int) ≤ 4 ∧ pn + k ≤ 300 ∧ Hid (putH q.a q.t o k L = FIN) ∧ TkI w ob bb zf zt po pn pc yo tn yc L ty q wr) (fun ov _ => (intOf ov - o + 1).toNat)
  case atStart => exact ⟨(q.o - o).toNat, q.o - 1, _, bo, m, c, rfl, by show _ = _; omega, by omega, by omega, HFN.out, J6⟩
  case round =>
    obtain ⟨k, O, L, po, pn, pc, rfl, hOk, hk4, hpn, hput, J⟩ := hrel
    clear J6
    by_cases hk0 : k = 0
    · have hlt : O < o := by have := hOk.out; omega
      have hL : L = FIN := by have := hput.out; rw [hk0] at this; exact this
      rw [hL] at J
      obtain ⟨⟨x0, e0⟩, ⟨x1, e1⟩, ⟨x2, e2⟩, ⟨x3, e3⟩, y0, y1, y2, y3⟩ := id J.res
      have p0 := J.box.c0
      have p1 := J.box.c1
      have p2 := J.box.c2
      have p3 := J.box.c3
      have pa := J.tb.c0
      have ne1 : ¬ (bb = w.heap.size + 1) := by have := J.bb1; omega
      have ne2 : ¬ (w.heap.size + 1 = bb) := by have := J.bb1; omega
      have ne3 : ¬ (ob = w.heap.size + 1) := by have := J.ob1; omega
      have ne4 : ¬ (w.heap.size + 1 = ob) := by have := J.ob1; omega
      obtain ⟨k0, k1, k2, k3⟩ := res4 J.res (.int .i64 zf) (.int .i64 zt) (.slice po pn pc) (.slice yo tn yc)
      have hbt := but4 wr.drew (w.heap.size + 1) (.int .i64 zf) (.int .i64 zt) (.slice po pn pc) (.slice yo tn yc)
      have Bl : Below wr.heap.size wr wr.drew := (Below.refl wr.heap.size wr).drew
      have fp := owns_fresh J.own
      have fy := owns_fresh J.typ
      have BF := blks_own (owns_below J.own Bl (Nat.le_refl _)) (by omega)
      have NF := nums_of_owns (owns_below J.typ Bl (Nat.le_refl _)) (by omega)
      have BB := (J.b.trans (Bl.mono J.b.size)).trans (hbt.below (B := w.heap.size) (by omega) (Nat.le_trans J.b.size Bl.size))
      have FINI : RetZone3 w.heap.size ((((wr.drew.setCell ⟨w.heap.size + 1, 0, none⟩ (.int .i64 zf)).setCell ⟨w.heap.size + 1, 1, none⟩ (.int .i64 zt)).setCell ⟨w.heap.size + 1, 2, none⟩ (.slice po pn pc)).setCell ⟨w.heap.size + 1, 3, none⟩ (.slice yo tn yc)) ⟨zf, zt, FIN, ty⟩ q.a (.returned (.tuple #[.agg #[.int .i64 zf, .int .i64 zt, .slice po pn pc, .slice yo tn yc], .int .i64 q.a, .int .i64 0])) := ⟨_, _, _, _, _, _, rfl, hbt.zn ⟨BF, NF⟩ (fun a ha => by have := fp a ha; omega) (fun a ha => by have := fy a ha; omega), fun a ha => by have := fp a ha; omega, fun a ha => by have := fy a ha; omega⟩
      have HFI : Hid _ := FINI
      have HBB : Hid _ := BB
      clear FINI BB BF NF J hbt Bl hL
      go_wp2_with fail
      go_region
      all_goals
        try go_wp2_with fail
        refine bodyPost_ret (v := .tuple #[.agg #[.int .i64 zf, .int .i64 zt, .slice po pn pc, .slice yo tn yc], .int .i64 q.a, .int .i64 0]) (by simp [results, Tryd.results7, go_sem, k0, k1, k2, k3]) rfl (hQ _ _ ?_ HBB.out)
        rw [HFN.out]
        exact HFI.out
    · obtain ⟨k', rfl⟩ : ∃ k', k = k' + 1 := ⟨k - 1, by omega⟩
      have hge : o ≤ O := by have := hOk.out; omega
      have eO : Hid (O = o + (k' : Int)) := by have := hOk.out; show _ = _; omega
      have hO4 : O ≤ 4 := by have := hOk.out; omega
      have hO0 : 0 ≤ O := by omega
      have p2 := J.box.c2
      have z2 := J.box.z2
      have pa := J.tb.c0
      have pt := J.tb.c2
      have hP := pw_pos O
      have hP2 := pw_le (o := O) ⟨hO0, hO4⟩
      obtain ⟨P, hPe⟩ : ∃ P, pw O = P := ⟨_, rfl⟩
      have HPW := power_v O P hO0 (by omega) hPe
      rw [hPe] at hP hP2
      have hwa : IntKind.i64.wrap (q.a + P) = q.a + P := IntWalk.i64_in _ (by omega)
      have hwo : IntKind.i64.wrap (O - 1) = O - 1 := IntWalk.i64_in _ (by omega)
      have hBl := blks_own J.own (by omega)
      have S1 : Below wr.heap.size wr { wr with drawn := wr.drawn + 1 } := (Below.refl wr.heap.size wr).drew
      have Q1 := And.intro (keep p2 S1) (And.intro (keep pa S1) (keep pt S1))
      have m0 : ∀ wx : World, (wx.cell? ⟨ob, 2, none⟩ = some (.slice po pn pc) ∧ wx.cell? ⟨bb, 0, none⟩ = some (.int .i64 q.a) ∧ wx.cell? ⟨bb, 2, none⟩ = some (.int .i64 q.t)) → wx.cell? ⟨ob, 2, none⟩ = some (.slice po pn pc) := fun wx h => h.1
      have m1 : ∀ wx : World, (wx.cell? ⟨ob, 2, none⟩ = some (.slice po pn pc) ∧ wx.cell? ⟨bb, 0, none⟩ = some (.int .i64 q.a) ∧ wx.cell? ⟨bb, 2, none⟩ = some (.int .i64 q.t)) → wx.cell? ⟨bb, 0, none⟩ = some (.int .i64 q.a) := fun wx h => h.2.1
      have m2 : ∀ wx : World, (wx.cell? ⟨ob, 2, none⟩ = some (.slice po pn pc) ∧ wx.cell? ⟨bb, 0, none⟩ = some (.int .i64 q.a) ∧ wx.cell? ⟨bb, 2, none⟩ = some (.int .i64 q.t)) → wx.cell? ⟨bb, 2, none⟩ = some (.int .i64 q.t) := fun wx h => h.2.2
      have hput2 : Hid (putH q.a q.t o k' (addB L ⟨q.a + P, O, q.t⟩) = FIN) := by
        show _ = _
        rw [← hput.out, ← hPe, eO.out]
        rfl
      clear hPe
      go_wp2_with fail
      refine wp_region_peel (S := fun wx => (wx.cell? ⟨ob, 2, none⟩ = some (.slice po pn pc) ∧ wx.cell? ⟨bb, 0, none⟩ = some (.int .i64 q.a) ∧ wx.cell? ⟨bb, 2, none⟩ = some (.int .i64 q.t))) 13 _ (by kernel_rfl) (by kernel_rfl) rfl ?_
      simp only [List.take_succ_cons, List.take_zero]
      refine takeH 0 (v := .pointer (some ⟨ob, 2, none⟩)) rfl (by kernel_rfl) (by kernel_rfl) (by kernel_rfl) (fun _ _ _ h => h) rfl (fun wx hSx => ?_) Q1 ?_
      · go_simp
      try simp only [Act.put, List.setIfInBounds_toArray, List.set_cons_zero, List.set_cons_succ]
      refine takeH 1 (v := .slice po pn pc) rfl (by kernel_rfl) (by kernel_rfl) (by kernel_rfl) (fun _ _ _ h => h) rfl (fun wx hSx => ?_) Q1 ?_
      · go_simp
      try simp only [Act.put, List.setIfInBounds_toArray, List.set_cons_zero, List.set_cons_succ]
      refine takeH 2 (v := .pointer (some ⟨bb, 0, none⟩)) rfl (by kernel_rfl) (by kernel_rfl) (by kernel_rfl) (fun _ _ _ h => h) rfl (fun wx hSx => ?_) Q1 ?_
      · go_simp
      try simp only [Act.put, List.setIfInBounds_toArray, List.set_cons_zero, List.set_cons_succ]
      refine takeH 3 (v := .int .i64 q.a) rfl (by kernel_rfl) (by kernel_rfl) (by kernel_rfl) (fun _ _ _ h => h) rfl (fun wx hSx => ?_) Q1 ?_
      · go_simp
      try simp only [Act.put, List.setIfInBounds_toArray, List.set_cons_zero, List.set_cons_succ]
      refine takeH 4 (v := .int .i64 O) rfl (by kernel_rfl) (by kernel_rfl) (by kernel_rfl) (fun _ _ _ h => h) rfl (fun wx hSx => ?_) Q1 ?_
      · go_simp
      try simp only [Act.put, List.setIfInBounds_toArray, List.set_cons_zero, List.set_cons_succ]
      refine takeH 7 (v := .int .i64 O) rfl (by kernel_rfl) (by kernel_rfl) (by kernel_rfl) (fun _ _ _ h => h) rfl (fun wx hSx => ?_) Q1 ?_
      · go_simp
      try simp only [Act.put, List.setIfInBounds_toArray, List.set_cons_zero, List.set_cons_succ]
      refine takeH 8 (v := .pointer (some ⟨bb, 2, none⟩)) rfl (by kernel_rfl) (by kernel_rfl) (by kernel_rfl) (fun _ _ _ h => h) rfl (fun wx hSx => ?_) Q1 ?_
      · go_simp
      try simp only [Act.put, List.setIfInBounds_toArray, List.set_cons_zero, List.set_cons_succ]
      refine takeH 9 (v := .int .i64 q.t) rfl (by kernel_rfl) (by kernel_rfl) (by kernel_rfl) (fun _ _ _ h => h) rfl (fun wx hSx => ?_) Q1 ?_
      · go_simp
      try simp only [Act.put, List.setIfInBounds_toArray, List.set_cons_zero, List.set_cons_succ]
      refine oneH 5 (by kernel_rfl) rfl rfl (fun K1 hK1 => ?_)
      go_simp
      refine (HPW _).mono ?_
      rintro e wq ⟨rfl, rfl⟩
      refine hK1 _ _ Q1 ?_
      try simp only [Act.put, List.setIfInBounds_toArray, List.set_cons_zero, List.set_cons_succ]
      refine takeH 6 (v := .int .i64 (q.a + P)) rfl (by kernel_rfl) (by kernel_rfl) (by kernel_rfl) (fun _ _ _ h => h) rfl (fun wx hSx => ?_) Q1 ?_
      · go_simp
      try simp only [Act.put, List.setIfInBounds_toArray, List.set_cons_zero, List.set_cons_succ]
      refine takeH 10 (v := .agg #[.int .i64 (q.a + P), .int .i64 O, .int .i64 q.t]) rfl (by kernel_rfl) (by kernel_rfl) (by kernel_rfl) (fun _ _ _ h => h) rfl (fun wx hSx => ?_) Q1 ?_
      · go_simp
      try simp only [Act.put, List.setIfInBounds_toArray, List.set_cons_zero, List.set_cons_succ]
      refine oneH 11 (by kernel_rfl) rfl rfl (fun K2 hK2 => ?_)
      go_simp
      refine (withBlock_any _ po pn pc L ⟨q.a + P, O, q.t⟩ (hBl.below S1) (by omega)).mono ?_
      rintro e w5 ⟨bo2, c2, rfl, ow5, hb5⟩
      have SA : Below wr.heap.size wr w5 := S1.trans (hb5.mono S1.size)
      have QA := And.intro (keep p2 SA) (And.intro (keep pa SA) (keep pt SA))
      refine hK2 _ _ QA ?_
      try simp only [Act.put, List.setIfInBounds_toArray, List.set_cons_zero, List.set_cons_succ]
      refine takeH 12 (v := .pointer (some ⟨ob, 2, none⟩)) rfl (by kernel_rfl) (by kernel_rfl) (by kernel_rfl) (fun _ _ _ h => h) rfl (fun wx hSx => ?_) QA ?_
      · go_simp
      try simp only [Act.put, List.setIfInBounds_toArray, List.set_cons_zero, List.set_cons_succ]
      refine wpAnyH_done (by kernel_rfl) ?_ _
      show Oper.wp _ _ _ _ _ _
      have J5 := J.below SA
      have d2 := J5.box.c2
      have dz := J5.box.z2
      have lob2 := J.box.lt
      have lbb2 : bb < wr.heap.size := by have := World.block_lt_of_cell? wr _ pa; exact this
      have lto : ∀ a, yo = some a → a.block < wr.heap.size := fun a ha => by
        rcases J.typ.2 with ⟨e1, _⟩ | ⟨g, cp, cur, e1, _, hg, _⟩
        · simp only [Value.slice.injEq] at e1
          rw [e1.1] at ha
          cases ha
        · simp only [Value.slice.injEq] at e1
          rw [e1.1] at ha
          cases ha
          exact (Array.getElem?_eq_some_iff.1 hg).1
      have fo5 : Fresh wr.heap.size bo2 := (owns_fresh ow5).mono (by have := S1.size; exact this)
      have hob2 := J.ob1
      have J6 := J5.setFree (owns_weaken ow5 (by have := S1.size; simp at this ⊢; omega)) (fun a ha => by have := fo5 a ha; omega) (fun a a' ha ha' => by have := fo5 a ha; have := lto a' ha'; omega)
      have hOk2 : Hid (O - 1 = o + (k' : Int) - 1) := by have := eO.out; show _ = _; omega
      clear hK1 hK2 m0 m1 m2 J J5 hBl S1 Q1 SA QA HPW hput hOk eO lto fo5 ow5 hb5
      go_wp2_with fail
      go_roundw
      case rel => exact ⟨k', O - 1, _, bo2, pn + 1, c2, by simp, hOk2, by omega, by omega, hput2, J6⟩
      case measure => simp [intOf]; omega

end Go.Proofs.YtpfafhgllabhbaaDoor

/-
  OWN TEXT. The document's answer: TakenOf, the groups that are stolen.
-/
namespace Go.Proofs.YtpfafhgllabhbaaDoor
open Go Go.RowKit Go.Proofs.YtpfafhgllabhbaaDoor.Kit

def seqL : Code → Code
  | .seq a _ => a
  | c => c
def inBl : Code → Code
  | .block _ a => a
  | c => c
def inLp : Code → Code
  | .loop a => a
  | c => c
def condT : Code → Code
  | .cond _ a _ => a
  | c => c
theorem tin_qt (n lo hi : Int) (h : inB n lo hi = true) (w : World) : Calls Tryd.prog 21 #[.int .i64 n, .int .i64 lo, .int .i64 hi] w fun e w' => e = .returned (.bool true) ∧ w' = w :=
  (in_any n lo hi w).mono fun _ _ ⟨h1, h2⟩ => ⟨by rw [h1, h], h2.symm⟩
theorem tin_qf (n lo hi : Int) (h : inB n lo hi = false) (w : World) : Calls Tryd.prog 21 #[.int .i64 n, .int .i64 lo, .int .i64 hi] w fun e w' => e = .returned (.bool false) ∧ w' = w :=
  (in_any n lo hi w).mono fun _ _ ⟨h1, h2⟩ => ⟨by rw [h1, h], h2.symm⟩
noncomputable def takenSteal : Code := condT (seqR (seqR (seqR (inBl (seqL (seqR (inLp (inBl (seqR (seqL (seqR (seqR (seqR (seqR (seqR (seqR (seqR (seqR ((Tryd.f7.body).getD .skip)))))))))))))))))))

set_option maxRecDepth 10000 in
set_option maxHeartbeats 16000000 in
theorem takenOf_steal (x0 x1 x4 x5 x6 x7 x8 x11 x12 x14 x15 x16 x17 x18 x19 x20 x21 x22 x23 x24 x25 x26 x27 x28 x29 x30 x31 x32 x33 x34 x35 x36 x37 x38 x39 x40 x41 x42 x43 x44 x45 x46 x47 x48 x49 x50 x51 x52 x53 x54 x55 x56 x57 x58 x59 x60 x61 x62 x63 x64 x65 x66 x67 x68 x69 x70 x71 x72 x73 x74 x75 x76 x77 x78 x79 x80 x81 x82 x83 x84 x85 x86 x87 x88 x89 x90 x91 x92 x93 x94 x95 x96 x97 x98 x99 x100 x101 x102 x103 x104 x105 x106 x107 x108 x109 x110 x111 x112 x113 x114 x115 x116 x117 x118 x119 x120 x121 x122 x123 x124 x125 x126 x127 x128 x129 x130 x131 x132 x133 x134 x135 x136 x137 x138 x139 x140 x141 x142 x143 x144 x145 x146 x147 x148 x149 x150 x151 x152 x153 x154 x155 x156 x157 x158 x159 x160 x161 x162 x163 x164 x165 x166 x167 x168 x169 x170 x171 x172 x173 x174 x175 x176 x177 x178 x179 x180 x181 x182 x183 x184 x185 x186 x187 x188 x189 x190 x191 x192 x193 x194 x195 x196 : Value) (w wr : World) (ob bb : Nat) (z : Zn) (g fn xc yg tn yc : Nat) (q : Bk) (t O : Int) (Qx : Exit → Act → World → Prop)
    (J : TkI w ob bb z.f z.t (some ⟨g, 0, none⟩) fn xc (some ⟨yg, 0, none⟩) tn yc z.free z.types q wr) (hM : ZMay z) (hq : q ∈ z.free) (hO : Hid (q.o = O)) (h2 : 2 ≤ O)
    (hQ : ∀ (y16 y17 y18 y19 y88 y89 y90 y91 y92 y93 y94 y95 y96 y97 y98 y99 y100 y101 y102 y103 y104 y105 y106 y107 y108 y109 y110 y111 y112 y113 y114 y115 y116 y117 y118 y119 y120 y121 y122 y123 y124 y125 y126 y127 y128 y129 y130 y131 y132 y133 y134 y135 y136 y137 y138 y139 y140 y141 y142 y143 y144 y145 y146 y147 y148 y149 y150 y151 y152 y153 y154 y155 y156 y157 y158 : Value) W, TkI w ob bb z.f z.t (some ⟨g, 0, none⟩) fn xc (some ⟨yg, 0, none⟩) tn yc (stolenZ z q t).free (stolenZ z q t).types ⟨q.a, q.o, t⟩ W → Qx .normal ⟨#[x0, x1, .int .i64 t, .pointer (some ⟨w.heap.size, 0, none⟩), x4, x5, x6, x7, x8, .pointer (some ⟨ob, 0, none⟩), .pointer (some ⟨bb, 0, none⟩), x11, x12, .int .i64 O, x14, x15, y16, y17, y18, y19, x20, x21, x22, x23, x24, x25, x26, x27, x28, x29, x30, x31, x32, x33, x34, x35, x36, x37, x38, x39, x40, x41, x42, x43, x44, x45, x46, x47, x48, x49, x50, x51, x52, x53, x54, x55, x56, x57, x58, x59, x60, x61, x62, x63, x64, x65, x66, x67, x68, x69, x70, x71, x72, x73, x74, x75, x76, x77, x78, x79, x80, x81, x82, x83, x84, x85, x86, x87, y88, y89, y90, y91, y92, y93, y94, y95, y96, y97, y98, y99, y100, y101, y102, y103, y104, y105, y106, y107, y108, y109, y110, y111, y112, y113, y114, y115, y116, y117, y118, y119, y120, y121, y122, y123, y124, y125, y126, y127, y128, y129, y130, y131, y132, y133, y134, y135, y136, y137, y138, y139, y140, y141, y142, y143, y144, y145, y146, y147, y148, y149, y150, y151, y152, y153, y154, y155, y156, y157, y158, x159, x160, x161, x162, x163, x164, x165, x166, x167, x168, x169, x170, x171, x172, x173, x174, x175, x176, x177, x178, x179, x180, x181, x182, x183, x184, x185, x186, x187, x188, x189, x190, x191, x192, x193, x194, x195, x196], []⟩ W) :
    Code.wp Tryd.prog takenSteal Qx ⟨#[x0, x1, .int .i64 t, .pointer (some ⟨w.heap.size, 0, none⟩), x4, x5, x6, x7, x8, .pointer (some ⟨ob, 0, none⟩), .pointer (some ⟨bb, 0, none⟩), x11, x12, .int .i64 O, x14, x15, x16, x17, x18, x19, x20, x21, x22, x23, x24, x25, x26, x27, x28, x29, x30, x31, x32, x33, x34, x35, x36, x37, x38, x39, x40, x41, x42, x43, x44, x45, x46, x47, x48, x49, x50, x51, x52, x53, x54, x55, x56, x57, x58, x59, x60, x61, x62, x63, x64, x65, x66, x67, x68, x69, x70, x71, x72, x73, x74, x75, x76, x77, x78, x79, x80, x81, x82, x83, x84, x85, x86, x87, x88, x89, x90, x91, x92, x93, x94, x95, x96, x97, x98, x99, x100, x101, x102, x103, x104, x105, x106, x107, x108, x109, x110, x111, x112, x113, x114, x115, x116, x117, x118, x119, x120, x121, x122, x123, x124, x125, x126, x127, x128, x129, x130, x131, x132, x133, x134, x135, x136, x137, x138, x139, x140, x141, x142, x143, x144, x145, x146, x147, x148, x149, x150, x151, x152, x153, x154, x155, x156, x157, x158, x159, x160, x161, x162, x163, x164, x165, x166, x167, x168, x169, x170, x171, x172, x173, x174, x175, x176, x177, x178, x179, x180, x181, x182, x183, x184, x185, x186, x187, x188, x189, x190, x191, x192, x193, x194, x195, x196], []⟩ wr := by
  have HQ : Hid _ := hQ
  clear hQ
  conv => arg 2; whnf
  obtain ⟨⟨⟨q0', q4⟩, qa1, qa2, qa3⟩, _⟩ := (free_iff.1 hM.free).1 q hq
  obtain ⟨n1, n2, n3, n4, n5⟩ := hM.new
  have hlen : z.free.length = fn := bowns_len J.own
  have htlen : z.types.length = tn := owns_len J.typ
  have hbl := may_len hM
  have hty8 := hM.len
  rw [hO.out] at q0' q4 qa3
  have hP1 := pw_pos O
  have hP2 := pw_le (o := O) ⟨q0', q4⟩
  have hqe : q.a + pw O ≤ z.t := by rcases ord_cases (o := O) ⟨q0', q4⟩ with ⟨r, e⟩ | ⟨r, e⟩ | ⟨r, e⟩ | ⟨r, e⟩ | ⟨r, e⟩ <;> rw [e] at qa3 ⊢ <;> omega
  obtain ⟨P, hP⟩ : ∃ P, pw O = P := ⟨_, rfl⟩
  have HP : Hid _ := hP
  rw [hP] at hP1 hP2 hqe
  clear hP qa3
  have HPW := power_v O P q0' (by omega) HP.out
  obtain ⟨A, hA⟩ : ∃ A, q.a = A := ⟨_, rfl⟩
  have HA : Hid _ := hA
  have u0 := J.tb.c0
  rw [hA] at u0 qa1 qa2 hqe
  clear hA
  obtain ⟨X8, hX8⟩ : ∃ X8 : Nat, A / 8 = (X8 : Int) := ⟨(A / 8).toNat, by omega⟩
  obtain ⟨Y8, hY8⟩ : ∃ Y8 : Nat, (A + P - 1) / 8 = (Y8 : Int) := ⟨((A + P - 1) / 8).toNat, by omega⟩
  obtain ⟨E1, hE1⟩ : ∃ E1 : Int, A + P = E1 := ⟨_, rfl⟩
  obtain ⟨E2, hE2⟩ : ∃ E2 : Int, E1 - 1 = E2 := ⟨_, rfl⟩
  obtain ⟨X, hX⟩ : ∃ X : Int, (X8 : Int) * 8 = X := ⟨_, rfl⟩
  obtain ⟨Y, hY⟩ : ∃ Y : Int, (Y8 : Int) * 8 = Y := ⟨_, rfl⟩
  have td1 : A.tdiv 8 = (X8 : Int) := by rw [Int.tdiv_eq_ediv_of_nonneg (by omega)]; exact hX8
  have td2 : E2.tdiv 8 = (Y8 : Int) := by rw [Int.tdiv_eq_ediv_of_nonneg (by omega), ← hE2, ← hE1]; exact hY8
  have w1 : IntKind.i64.wrap (X8 : Int) = X8 := IntWalk.i64_in _ (by omega)
  have w2 : IntKind.i64.wrap (Y8 : Int) = Y8 := IntWalk.i64_in _ (by omega)
  have w3 : IntKind.i64.wrap X = X := IntWalk.i64_in _ (by omega)
  have w4 : IntKind.i64.wrap Y = Y := IntWalk.i64_in _ (by omega)
  have w5 : IntKind.i64.wrap E1 = E1 := IntWalk.i64_in _ (by omega)
  have w6 : IntKind.i64.wrap E2 = E2 := IntWalk.i64_in _ (by omega)
  have HX8 : Hid _ := hX8
  have HY8 : Hid _ := hY8
  clear hX8 hY8
  obtain ⟨F, hF⟩ : ∃ F : Nat, (A - z.f) / 8 = (F : Int) := ⟨((A - z.f) / 8).toNat, by omega⟩
  obtain ⟨L, hL⟩ : ∃ L : Nat, (E2 - z.f) / 8 = (L : Int) := ⟨((E2 - z.f) / 8).toNat, by omega⟩
  have hXF : X = z.f + 8 * (F : Int) := by have := HX8.out; omega
  have hYL : Y = z.f + 8 * (L : Int) := by have := HY8.out; omega
  have hFL : F ≤ L + 1 := by omega
  have hLn : L < tn := by omega
  have HF : Hid (grpF z q = (F : Int)) := by show grpF z q = F; unfold grpF; rw [HA.out]; exact hF
  have HL : Hid (grpL z q = (L : Int)) := by show grpL z q = L; unfold grpL; rw [HA.out, hO.out, HP.out, hE1, hE2]; exact hL
  have HRT : Hid (∀ x ∈ z.free, retypeB X Y t x = stealB z.f F L t x) := fun x hx => by
    have := retype_eq hM hq t hx
    rw [HA.out, hO.out, HP.out, hE1, hE2, HF.out, HL.out] at this
    rw [← this]
    congr 1
    · have := HX8.out; omega
    · have := HY8.out; rw [hE1, hE2] at this; omega
  have HXF : Hid _ := hXF
  have HYL : Hid _ := hYL
  have HE1 : Hid _ := hE1
  have HE2 : Hid _ := hE2
  clear hF hL hXF hYL
  have hY256 : Y ≤ 256 := by have := HYL.out; omega
  have hX0 : 0 ≤ X := by have := HXF.out; omega
  have hall := (free_iff.1 hM.free).1
  go_wp2_with fail
  go_quiet ((go_at_call 24; exact Calls.quiet_of_same (HPW _)))
  have J1 := J.below (below_drawn (w := wr) (by assumption))
  clear HPW td1 td2 w1 w2 w3 w4 w5 w6 u0
  generalize hWr : wr.drewN _ = W1 at J1 ⊢
  clear hWr J
  go_wp2_with fail
  go_loopw [18] (fun gv wq => ∃ (c : Nat) (G : Int), F + c ≤ L + 1 ∧ gv = .int .i64 G ∧ Hid (z.f + 8 * ((F + c : Nat) : Int) = G) ∧ TkI w ob bb z.f z.t (some ⟨g, 0, none⟩) fn xc (some ⟨yg, 0, none⟩) tn yc z.free (setR z.types F t c) q wq) (fun gv _ => (Y + 8 - intOf gv).toNat)
  case atStart => exact ⟨0, X, by omega, rfl, (by have := HXF.out; show z.f + 8 * ((F + 0 : Nat) : Int) = X; omega), J1⟩
  case round =>
    obtain ⟨c, G, hc, rfl, HG, Jr⟩ := hrel
    clear J1
    have y3 := Jr.box.c3
    have y4 := Jr.zin
    by_cases hlt : F + c ≤ L
    · obtain ⟨⟨v0, q1⟩, q2, J5⟩ := Jr.setTy (c := F + c) (by omega) t
      obtain ⟨K, hK⟩ : ∃ K, F + c = K := ⟨_, rfl⟩
      have hset : setR z.types F t (c + 1) = (setR z.types F t c).set K t := by rw [← hK]; rfl
      rw [hK] at q1 q2 J5
      rw [← hset] at J5
      have hKn : K < tn := by omega
      have e1 : G ≤ Y := by have := HG.out; have := HYL.out; omega
      obtain ⟨D, hD⟩ : ∃ D, G - z.f = D := ⟨_, rfl⟩
      have HD : Hid _ := hD
      have eD : D = 8 * (K : Int) := by have := HG.out; omega
      have wD : IntKind.i64.wrap D = D := IntWalk.i64_in _ (by omega)
      have tD : D.tdiv 8 = (K : Int) := by rw [Int.tdiv_eq_ediv_of_nonneg (by omega)]; omega
      have wK : IntKind.i64.wrap (K : Int) = K := IntWalk.i64_in _ (by omega)
      have wG : IntKind.i64.wrap (G + 8) = G + 8 := IntWalk.i64_in _ (by omega)
      have HK : Hid _ := hK
      clear hK eD hset Jr
      go_wp2_with fail
      go_roundw
      case rel => exact ⟨c + 1, G + 8, by have := HK.out; omega, rfl, (by have := HG.out; show z.f + 8 * ((F + (c + 1) : Nat) : Int) = G + 8; omega), J5⟩
      case measure => simp [intOf]; omega
    · have hcL : c = L + 1 - F := by omega
      have e1 : ¬ (G ≤ Y) := by have := HG.out; have := HYL.out; omega
      rw [hcL] at Jr
      obtain ⟨T, hT⟩ : ∃ T, setR z.types F t (L + 1 - F) = T := ⟨_, rfl⟩
      rw [hT] at Jr
      have HT : Hid _ := hT
      clear hT hcL y3 y4
      go_wp2_with fail
      go_loopw [19] (fun iv wq => ∃ i : Nat, i ≤ fn ∧ iv = .int .i64 i ∧ TkI w ob bb z.f z.t (some ⟨g, 0, none⟩) fn xc (some ⟨yg, 0, none⟩) tn yc (stealK z.f F L t z.free i) T q wq) (fun iv _ => fn - (intOf iv).toNat)
      case atStart => exact ⟨0, Nat.zero_le _, rfl, by rw [stealK_0]; exact Jr⟩
      case round =>
        obtain ⟨i, hi, rfl, Jq⟩ := hrel
        clear Jr
        have y2 := Jq.box.c2
        by_cases hin : i < fn
        · obtain ⟨⟨x, y, u⟩, hXq0⟩ : ∃ b, z.free.getD i .zero = b := ⟨_, rfl⟩
          have hXq : (stealK z.f F L t z.free i).getD i .zero = ⟨x, y, u⟩ := by rw [stealK_at _ _ _ _ (by omega)]; exact hXq0
          have hsucc := stealK_succ z.f F L t (l := z.free) (by omega) hXq0
          have hmem : (⟨x, y, u⟩ : Bk) ∈ z.free := by rw [← hXq0, List.getD_eq_getElem?_getD, List.getElem?_eq_getElem (by omega)]; exact List.getElem_mem _
          obtain ⟨⟨⟨x0', x4'⟩, x1', x2', x3'⟩, _⟩ := hall _ hmem
          dsimp only at x0' x4' x1' x2' x3'
          have hp1 := pw_pos y
          have hp2 := pw_le (o := y) ⟨x0', x4'⟩
          obtain ⟨PY, hPY⟩ : ∃ PY, pw y = PY := ⟨_, rfl⟩
          have HPY : Hid _ := hPY
          rw [hPY] at hp1 hp2
          have HPW := power_v y PY x0' (by omega) HPY.out
          have HRX := HRT.out _ hmem
          unfold retypeB at HRX
          dsimp only at HRX
          rw [hPY] at HRX
          rw [← HRX] at hsucc
          have x256 : x ≤ 256 := by rw [hPY] at x3'; omega
          have qa : wr.cell? ⟨g, i * 3, none⟩ = some (.int .i64 x) := by
            have := Jq.own.cellAt (i * 3) (by omega)
            rw [this]
            have h2 := bvals_0 (stealK z.f F L t z.free i) i (by rw [stealK_len]; omega)
            rw [hXq] at h2
            exact h2
          have qb : wr.cell? ⟨g, i * 3 + 1, none⟩ = some (.int .i64 y) := by
            have := Jq.own.cellAt (i * 3 + 1) (by omega)
            rw [this]
            have h2 := bvals_1 (stealK z.f F L t z.free i) i (by rw [stealK_len]; omega)
            rw [hXq] at h2
            exact h2
          obtain ⟨Y7, hY7⟩ : ∃ Y7, Y + 7 = Y7 := ⟨_, rfl⟩
          obtain ⟨Y9, hY9⟩ : ∃ Y9, Y + 8 = Y9 := ⟨_, rfl⟩
          obtain ⟨XE, hXE⟩ : ∃ XE, x + PY = XE := ⟨_, rfl⟩
          have w7 : IntKind.i64.wrap Y7 = Y7 := IntWalk.i64_in _ (by omega)
          have w9 : IntKind.i64.wrap Y9 = Y9 := IntWalk.i64_in _ (by omega)
          have wE : IntKind.i64.wrap XE = XE := IntWalk.i64_in _ (by omega)
          have hii : (i : Int) < fn := by omega
          have HXq : Hid ((stealK z.f F L t z.free i).getD i .zero = ⟨x, y, u⟩) := hXq
          rw [hY7, hY9, hXE] at hsucc
          have HSu : Hid _ := hsucc
          have x1'' := x1'
          clear HRX hXq0 hXq hsucc hPY hmem x3'
          by_cases c1 : X ≤ x ∧ x ≤ Y7
          · have b1 : inB x X Y7 = true := inB_t c1
            have HB1 : Hid _ := b1
            have HIN := tin_qt x X Y7 HB1.out
            clear b1
            by_cases c2 : XE ≤ Y9
            · have b2 : decide (XE ≤ Y9) = true := decide_eq_true c2
              have HSS : Hid ((if (X ≤ x ∧ x ≤ Y7) ∧ XE ≤ Y9 then (⟨x, y, t⟩ : Bk) else ⟨x, y, u⟩) = ⟨x, y, t⟩) := if_pos ⟨c1, c2⟩
              clear c1
              go_wp2_with fail
              go_quiet (first | (go_at_call 24; exact Calls.quiet_of_same (HPW _)) | (go_at_call 21; exact Calls.quiet_of_same (HIN _)))
              have J6 := Jq.below (below_drawn (w := wr) (by assumption))
              have y2' := J6.box.c2
              obtain ⟨⟨v0, q1⟩, q2, J7⟩ := J6.setBt (i := i) hin t
              rw [HXq.out] at J7
              dsimp only at J7
              have e8 : (stealK z.f F L t z.free i).set i ⟨x, y, t⟩ = stealK z.f F L t z.free (i + 1) := by rw [HSu.out, HSS.out]
              rw [e8] at J7
              clear e8
              clear J6 Jq HPW HIN y2 qa qb
              go_wp2
              go_roundw
              case rel => exact ⟨i + 1, by omega, by go_num, J7⟩
              case measure => simp [intOf]; omega
            · have b2 : decide (XE ≤ Y9) = false := decide_eq_false c2
              have HSS : Hid ((if (X ≤ x ∧ x ≤ Y7) ∧ XE ≤ Y9 then (⟨x, y, t⟩ : Bk) else ⟨x, y, u⟩) = ⟨x, y, u⟩) := if_neg (fun g => c2 g.2)
              clear c1
              have hset : (stealK z.f F L t z.free i).set i ⟨x, y, u⟩ = stealK z.f F L t z.free i := by
                have h3 := HXq.out
                rw [List.getD_eq_getElem?_getD, List.getElem?_eq_getElem (by rw [stealK_len]; omega)] at h3
                simp only [Option.getD_some] at h3
                rw [← h3]
                exact List.set_getElem_self _
              have HSE : Hid (stealK z.f F L t z.free (i + 1) = stealK z.f F L t z.free i) := by
                have h3 := HSu.out
                rw [HSS.out, hset] at h3
                exact h3
              clear hset
              go_wp2_with fail
              go_quiet (first | (go_at_call 24; exact Calls.quiet_of_same (HPW _)) | (go_at_call 21; exact Calls.quiet_of_same (HIN _)))
              have J6 := Jq.below (below_drawn (w := wr) (by assumption))
              clear Jq HIN y2 qa qb
              go_wp2
              go_roundw
              case rel => exact ⟨i + 1, by omega, by go_num, by rw [HSE.out]; exact J6⟩
              case measure => simp [intOf]; omega
          · have b1 : inB x X Y7 = false := inB_f c1
            have HB1 : Hid _ := b1
            have HIN := tin_qf x X Y7 HB1.out
            have HSS : Hid ((if (X ≤ x ∧ x ≤ Y7) ∧ XE ≤ Y9 then (⟨x, y, t⟩ : Bk) else ⟨x, y, u⟩) = ⟨x, y, u⟩) := if_neg (fun g => c1 g.1)
            clear b1 c1 HPW
            have hset : (stealK z.f F L t z.free i).set i ⟨x, y, u⟩ = stealK z.f F L t z.free i := by
              have h3 := HXq.out
              rw [List.getD_eq_getElem?_getD, List.getElem?_eq_getElem (by rw [stealK_len]; omega)] at h3
              simp only [Option.getD_some] at h3
              rw [← h3]
              exact List.set_getElem_self _
            have HSE : Hid (stealK z.f F L t z.free (i + 1) = stealK z.f F L t z.free i) := by
              have h3 := HSu.out
              rw [HSS.out, hset] at h3
              exact h3
            clear hset
            go_wp2_with fail
            go_quiet ((go_at_call 21; exact Calls.quiet_of_same (HIN _)))
            have J6 := Jq.below (below_drawn (w := wr) (by assumption))
            clear Jq HIN y2 qa qb
            go_wp2
            go_roundw
            case rel => exact ⟨i + 1, by omega, by go_num, by rw [HSE.out]; exact J6⟩
            case measure => simp [intOf]; omega
        · have hfi : i = fn := by omega
          rw [show stealK z.f F L t z.free i = z.free.map (stealB z.f F L t) by rw [hfi, ← hlen, stealK_all]] at Jq
          have J9 := Jq.setQt t
          have u2 := Jq.tb.c2
          have z2 := Jq.tb.z2
          have hii : ¬ ((i : Int) < fn) := by omega
          have ea : z.free.map (stealB z.f F L t) = (stolenZ z q t).free := by unfold stolenZ; dsimp only; rw [HF.out, HL.out]
          have eb : T = (stolenZ z q t).types := by unfold stolenZ; dsimp only; rw [HF.out, HL.out, Int.toNat_natCast, Int.toNat_natCast, HT.out]
          rw [ea, eb] at J9
          clear ea eb Jq hfi
          go_wp2
          exact HQ.out _ _ _ _ _ _ _ _ _ _ _ _ _ _ _ _ _ _ _ _ _ _ _ _ _ _ _ _ _ _ _ _ _ _ _ _ _ _ _ _ _ _ _ _ _ _ _ _ _ _ _ _ _ _ _ _ _ _ _ _ _ _ _ _ _ _ _ _ _ _ _ _ _ _ _ _ J9

end Go.Proofs.YtpfafhgllabhbaaDoor

/-
  OWN TEXT. The document's answer: TakenOf, behind the searches.
-/
namespace Go.Proofs.YtpfafhgllabhbaaDoor
open Go Go.RowKit Go.Proofs.YtpfafhgllabhbaaDoor.Kit

noncomputable def takenEnd : Code := seqR (seqR (seqR (seqR (seqR (seqR (seqR (seqR (seqR ((Tryd.f7.body).getD .skip)))))))))

set_option maxRecDepth 10000 in
set_option maxHeartbeats 16000000 in
theorem takenOf_end_t (x0 x2 x3 x4 x5 x7 x8 x12 x13 x14 x15 x16 x17 x18 x19 x20 x21 x22 x23 x24 x25 x26 x27 x28 x29 x30 x31 x32 x33 x34 x35 x36 x37 x38 x39 x40 x41 x42 x43 x44 x45 x46 x47 x48 x49 x50 x51 x52 x53 x54 x55 x56 x57 x58 x59 x60 x61 x62 x63 x64 x65 x66 x67 x68 x69 x70 x71 x72 x73 x74 x75 x76 x77 x78 x79 x80 x81 x82 x83 x84 x85 x86 x87 x88 x89 x90 x91 x92 x93 x94 x95 x96 x97 x98 x99 x100 x101 x102 x103 x104 x105 x106 x107 x108 x109 x110 x111 x112 x113 x114 x115 x116 x117 x118 x119 x120 x121 x122 x123 x124 x125 x126 x127 x128 x129 x130 x131 x132 x133 x134 x135 x136 x137 x138 x139 x140 x141 x142 x143 x144 x145 x146 x147 x148 x149 x150 x151 x152 x153 x154 x155 x156 x157 x158 x159 x160 x161 x162 x163 x164 x165 x166 x167 x168 x169 x170 x171 x172 x173 x174 x175 x176 x177 x178 x179 x180 x181 x182 x183 x184 x185 x186 x187 x188 x189 x190 x191 x192 x193 x194 x195 x196 : Value) (w wr : World) (ob bb : Nat) (zf zt : Int) (xo : Option Addr) (fn xc : Nat) (yo : Option Addr) (tn yc : Nat) (fr : List Bk) (ty : List Int) (q : Bk) (o : Int) (Q : Ending → World → Prop)
    (J : TkI w ob bb zf zt xo fn xc yo tn yc fr ty q wr) (ho0 : 0 ≤ o) (hqo : o ≤ q.o) (q4 : q.o ≤ 4) (qa1 : 0 ≤ q.a) (qa2 : q.a ≤ 256) (hfn : fn ≤ 256) (htn : tn ≤ 256)
    (hQ : ∀ e w', RetZone3 w.heap.size w' ⟨zf, zt, putH q.a q.t o (q.o - o).toNat (dropB fr q.a q.o), ty⟩ q.a e → Below w.heap.size w w' → Q e w') :
    Code.wp Tryd.prog takenEnd (bodyPost Tryd.prog Tryd.f7 Q) ⟨#[x0, .int .i64 o, x2, x3, x4, x5, .pointer (some ⟨w.heap.size + 1, 0, none⟩), x7, x8, .pointer (some ⟨ob, 0, none⟩), .pointer (some ⟨bb, 0, none⟩), .bool true, x12, x13, x14, x15, x16, x17, x18, x19, x20, x21, x22, x23, x24, x25, x26, x27, x28, x29, x30, x31, x32, x33, x34, x35, x36, x37, x38, x39, x40, x41, x42, x43, x44, x45, x46, x47, x48, x49, x50, x51, x52, x53, x54, x55, x56, x57, x58, x59, x60, x61, x62, x63, x64, x65, x66, x67, x68, x69, x70, x71, x72, x73, x74, x75, x76, x77, x78, x79, x80, x81, x82, x83, x84, x85, x86, x87, x88, x89, x90, x91, x92, x93, x94, x95, x96, x97, x98, x99, x100, x101, x102, x103, x104, x105, x106, x107, x108, x109, x110, x111, x112, x113, x114, x115, x116, x117, x118, x119, x120, x121, x122, x123, x124, x125, x126, x127, x128, x129, x130, x131, x132, x133, x134, x135, x136, x137, x138, x139, x140, x141, x142, x143, x144, x145, x146, x147, x148, x149, x150, x151, x152, x153, x154, x155, x156, x157, x158, x159, x160, x161, x162, x163, x164, x165, x166, x167, x168, x169, x170, x171, x172, x173, x174, x175, x176, x177, x178, x179, x180, x181, x182, x183, x184, x185, x186, x187, x188, x189, x190, x191, x192, x193, x194, x195, x196], []⟩ wr := by
  have HQ : Hid _ := hQ
  clear hQ
  conv => arg 2; whnf
  conv => arg 2; arg 2; change takenTail
  go_wp2_with fail
  exact takenOf_tail _ _ _ _ _ _ _ _ _ _ _ _ _ _ _ _ _ _ _ _ _ _ _ _ _ _ _ _ _ _ _ _ _ _ _ _ _ _ _ _ _ _ _ _ _ _ _ _ _ _ _ _ _ _ _ _ _ _ _ _ _ _ _ _ _ _ _ _ _ _ _ _ _ _ _ _ _ _ _ _ _ _ _ _ _ _ _ _ _ _ _ _ _ _ _ _ _ _ _ _ _ _ _ _ _ _ _ _ _ _ _ _ _ _ _ _ _ _ _ _ _ _ _ _ _ _ _ _ _ _ _ _ _ _ _ _ _ _ _ _ _ _ _ _ _ _ _ _ _ _ _ _ _ _ _ _ _ _ _ _ _ _ _ _ _ _ _ _ _ _ _ _ _ _ _ _ _ _ _ _ _ _ _ _ _ _ _ _ _ _ _ _ _ w wr ob bb zf zt xo fn xc yo tn yc fr ty q o Q J ho0 hqo q4 qa1 qa2 hfn htn HQ.out

set_option maxRecDepth 10000 in
set_option maxHeartbeats 16000000 in
theorem takenOf_end_f (x0 x2 x3 x4 x5 x7 x8 x12 x13 x14 x15 x16 x17 x18 x19 x20 x21 x22 x23 x24 x25 x26 x27 x28 x29 x30 x31 x32 x33 x34 x35 x36 x37 x38 x39 x40 x41 x42 x43 x44 x45 x46 x47 x48 x49 x50 x51 x52 x53 x54 x55 x56 x57 x58 x59 x60 x61 x62 x63 x64 x65 x66 x67 x68 x69 x70 x71 x72 x73 x74 x75 x76 x77 x78 x79 x80 x81 x82 x83 x84 x85 x86 x87 x88 x89 x90 x91 x92 x93 x94 x95 x96 x97 x98 x99 x100 x101 x102 x103 x104 x105 x106 x107 x108 x109 x110 x111 x112 x113 x114 x115 x116 x117 x118 x119 x120 x121 x122 x123 x124 x125 x126 x127 x128 x129 x130 x131 x132 x133 x134 x135 x136 x137 x138 x139 x140 x141 x142 x143 x144 x145 x146 x147 x148 x149 x150 x151 x152 x153 x154 x155 x156 x157 x158 x159 x160 x161 x162 x163 x164 x165 x166 x167 x168 x169 x170 x171 x172 x173 x174 x175 x176 x177 x178 x179 x180 x181 x182 x183 x184 x185 x186 x187 x188 x189 x190 x191 x192 x193 x194 x195 x196 : Value) (w wr : World) (ob bb : Nat) (o : Int) (Q : Ending → World → Prop) (hres : Res4 wr (w.heap.size + 1)) (hbl : Below w.heap.size w wr)
    (hQ : ∀ e w', RetNone3 6 e → Below w.heap.size w w' → Q e w') :
    Code.wp Tryd.prog takenEnd (bodyPost Tryd.prog Tryd.f7 Q) ⟨#[x0, .int .i64 o, x2, x3, x4, x5, .pointer (some ⟨w.heap.size + 1, 0, none⟩), x7, x8, .pointer (some ⟨ob, 0, none⟩), .pointer (some ⟨bb, 0, none⟩), .bool false, x12, x13, x14, x15, x16, x17, x18, x19, x20, x21, x22, x23, x24, x25, x26, x27, x28, x29, x30, x31, x32, x33, x34, x35, x36, x37, x38, x39, x40, x41, x42, x43, x44, x45, x46, x47, x48, x49, x50, x51, x52, x53, x54, x55, x56, x57, x58, x59, x60, x61, x62, x63, x64, x65, x66, x67, x68, x69, x70, x71, x72, x73, x74, x75, x76, x77, x78, x79, x80, x81, x82, x83, x84, x85, x86, x87, x88, x89, x90, x91, x92, x93, x94, x95, x96, x97, x98, x99, x100, x101, x102, x103, x104, x105, x106, x107, x108, x109, x110, x111, x112, x113, x114, x115, x116, x117, x118, x119, x120, x121, x122, x123, x124, x125, x126, x127, x128, x129, x130, x131, x132, x133, x134, x135, x136, x137, x138, x139, x140, x141, x142, x143, x144, x145, x146, x147, x148, x149, x150, x151, x152, x153, x154, x155, x156, x157, x158, x159, x160, x161, x162, x163, x164, x165, x166, x167, x168, x169, x170, x171, x172, x173, x174, x175, x176, x177, x178, x179, x180, x181, x182, x183, x184, x185, x186, x187, x188, x189, x190, x191, x192, x193, x194, x195, x196], []⟩ wr := by
  have HQ : Hid _ := hQ
  clear hQ
  conv => arg 2; whnf
  conv => arg 2; arg 2; change takenTail
  obtain ⟨k0, k1, k2, k3⟩ := res4 hres (.int .i64 0) (.int .i64 0) (.slice none 0 0) (.slice none 0 0)
  have hbt := but4 wr (w.heap.size + 1) (.int .i64 0) (.int .i64 0) (.slice none 0 0) (.slice none 0 0)
  have HB : Hid _ := hbl.trans (hbt.below (by omega) hbl.size)
  obtain ⟨⟨v0, e0⟩, ⟨v1, e1⟩, ⟨v2, e2⟩, ⟨v3, e3⟩, y0, y1, y2, y3⟩ := hres
  clear hbt
  go_wp2_with fail
  exact bodyPost_ret (v := .tuple #[.agg #[.int .i64 0, .int .i64 0, .slice none 0 0, .slice none 0 0], .int .i64 0, .int .i64 6]) (by simp [results, Tryd.results7, go_sem, k0, k1, k2, k3]) rfl (HQ.out _ _ rfl HB.out)

end Go.Proofs.YtpfafhgllabhbaaDoor

/-
  OWN TEXT. What the second search of the document's answer TakenOf has found is the code's take: plain mathematics.
-/
namespace Go.Proofs.YtpfafhgllabhbaaDoor
open Go Go.RowKit Go.Proofs.YtpfafhgllabhbaaDoor.Kit

/-- What lies in the variables of TakenOf behind the search: nothing is stolen yet, or the groups of the block are. -/
def StF (z : Zn) (t : Int) (fd : Bool) (q0 q : Bk) (fr : List Bk) (ty : List Int) : Prop :=
  if fd = true then (if 2 ≤ q0.o then fr = (stolenZ z q0 t).free ∧ ty = (stolenZ z q0 t).types ∧ q = ⟨q0.a, q0.o, t⟩ else fr = z.free ∧ ty = z.types ∧ q = q0) else fr = z.free ∧ ty = z.types

theorem StF_len {z : Zn} {t : Int} {fd : Bool} {q0 q : Bk} {fr : List Bk} {ty : List Int} (h : StF z t fd q0 q fr ty) : ty.length = z.types.length := by
  unfold StF at h
  split at h
  · split at h
    · rw [h.2.1]
      unfold stolenZ
      exact setR_len _ _ _ _
    · rw [h.2.1]
  · rw [h.2]

theorem dnB_in {l : List Bk} {u v o : Int} : ∀ {n : Nat} {b : Bk}, dnB l u v o n = some b → b ∈ l ∧ (b.t = u ∨ b.t = v) ∧ o ≤ b.o := by
  intro n
  induction n with
  | zero => intro b h; cases h
  | succ n ih =>
    intro b h
    unfold dnB at h
    split at h
    · rename_i b' hb
      cases h
      obtain ⟨h1, h2, h3⟩ := lowF_in hb
      exact ⟨h1, .inl h3, by omega⟩
    · split at h
      · rename_i b' hb
        cases h
        obtain ⟨h1, h2, h3⟩ := lowF_in hb
        exact ⟨h1, .inr h3, by omega⟩
      · exact ih h

theorem inF_in {l : List Bk} {u v O : Int} {k : Nat} {q : Bk} (h : InF l u v O true k q) : q ∈ l ∧ q.o = O := by
  unfold InF at h
  simp only [if_true] at h
  rcases h with g | ⟨_, g⟩
  · exact ⟨(lowF_in g).1, (lowF_in g).2.1⟩
  · exact ⟨(lowF_in g).1, (lowF_in g).2.1⟩

theorem oth_ne {t u : Int} (ht : typeOk t) (h : u = oth0 t ∨ u = oth1 t) : u ≠ t := by
  obtain ⟨h0, h2⟩ := ht
  unfold oth0 oth1 at h
  rcases h with h | h <;> split at h <;> omega

/-- Found by the first search. -/
theorem up_done {z : Zn} (hM : ZMay z) {o t : Int} (ho : ordOk o) {q : Bk} (hup : upB z.free t (5 - o).toNat o = some q) :
    (∃ i : Nat, chooseI z.free o t = i ∧ takeZ z o t i = ⟨z.f, z.t, putH q.a q.t o (q.o - o).toNat (dropB z.free q.a q.o), z.types⟩ ∧ q.a = (z.free.getD i .zero).a) ∧ o ≤ q.o ∧ q.o ≤ 4 ∧ 0 ≤ q.a ∧ q.a ≤ 256 := by
  obtain ⟨hqm, hqt, hqo⟩ := upB_in hup
  obtain ⟨⟨⟨q0', q4⟩, qa1, qa2, qa3⟩, _⟩ := (free_iff.1 hM.free).1 q hqm
  obtain ⟨n1, n2, n3, n4, n5⟩ := hM.new
  refine ⟨?_, hqo, q4, by omega, by have := pw_pos q.o; omega⟩
  have hp := pick_eq z.free o t
  rw [hup] at hp
  dsimp only at hp
  by_cases hc : 0 ≤ chooseI z.free o t
  · rw [if_pos hc] at hp
    have e := Option.some.inj hp
    refine ⟨(chooseI z.free o t).toNat, by omega, ?_⟩
    obtain ⟨g1, g2, _⟩ := taken_eq hM ho (i := (chooseI z.free o t).toNat) (by omega) e.symm (.inr ⟨fun g => g.1 hqt, rfl, rfl, rfl⟩)
    exact ⟨g1, by rw [← e]⟩
  · rw [if_neg hc] at hp
    cases hp

/-- Found by the second search. -/
theorem dn_done {z : Zn} (hM : ZMay z) {o t O : Int} (ho : ordOk o) (ht : typeOk t) {q0 q : Bk} {fr : List Bk} {ty : List Int} (hup : upB z.free t (5 - o).toNat o = none) (hD : DnF z.free (oth0 t) (oth1 t) o true O q0) (hS : StF z t true q0 q fr ty) :
    (∃ i : Nat, chooseI z.free o t = i ∧ takeZ z o t i = ⟨z.f, z.t, putH q.a q.t o (q.o - o).toNat (dropB fr q.a q.o), ty⟩ ∧ q.a = (z.free.getD i .zero).a) ∧ o ≤ q.o ∧ q.o ≤ 4 ∧ 0 ≤ q.a ∧ q.a ≤ 256 := by
  unfold DnF at hD
  simp only [if_true] at hD
  obtain ⟨hqm, hqt, hqo⟩ := dnB_in hD
  have hne := oth_ne ht hqt
  obtain ⟨⟨⟨q0', q4⟩, qa1, qa2, qa3⟩, _⟩ := (free_iff.1 hM.free).1 q0 hqm
  obtain ⟨n1, n2, n3, n4, n5⟩ := hM.new
  have hpp := pw_pos q0.o
  unfold StF at hS
  simp only [if_true] at hS
  have hs : (steals q0 t ∧ fr = (stolenZ z q0 t).free ∧ ty = (stolenZ z q0 t).types ∧ q = ⟨q0.a, q0.o, t⟩) ∨ (¬ steals q0 t ∧ fr = z.free ∧ ty = z.types ∧ q = q0) := by
    by_cases h2 : 2 ≤ q0.o
    · rw [if_pos h2] at hS
      exact .inl ⟨⟨hne, h2⟩, hS⟩
    · rw [if_neg h2] at hS
      exact .inr ⟨fun g => h2 g.2, hS⟩
  have hq : q.a = q0.a ∧ q.o = q0.o := by
    rcases hs with ⟨_, _, _, e⟩ | ⟨_, _, _, e⟩ <;> rw [e] <;> exact ⟨rfl, rfl⟩
  refine ⟨?_, by omega, by omega, by omega, by omega⟩
  have hp := pick_eq z.free o t
  have hD' : dnB z.free (other1 t) (other2 t) o (5 - o).toNat = some q0 := hD
  rw [hup] at hp
  dsimp only at hp
  rw [hD'] at hp
  by_cases hc : 0 ≤ chooseI z.free o t
  · rw [if_pos hc] at hp
    have e := Option.some.inj hp
    refine ⟨(chooseI z.free o t).toNat, by omega, ?_⟩
    obtain ⟨g1, g2, _⟩ := taken_eq hM ho (i := (chooseI z.free o t).toNat) (by omega) e.symm hs
    exact ⟨g1, by rw [← e]; exact g2⟩
  · rw [if_neg hc] at hp
    cases hp

/-- Not found. -/
theorem dn_none {z : Zn} {o t O : Int} {q0 : Bk} (hup : upB z.free t (5 - o).toNat o = none) (hD : DnF z.free (oth0 t) (oth1 t) o false O q0) (hO : O = o - 1) : chooseI z.free o t < 0 := by
  unfold DnF at hD
  simp only [Bool.false_eq_true, if_false] at hD
  rw [show (O + 1 - o).toNat = 0 by omega] at hD
  have hD' : dnB z.free (other1 t) (other2 t) o (5 - o).toNat = none := hD
  have hp := pick_eq z.free o t
  rw [hup] at hp
  dsimp only at hp
  rw [hD'] at hp
  by_cases hc : 0 ≤ chooseI z.free o t
  · rw [if_pos hc] at hp
    cases hp
  · omega

end Go.Proofs.YtpfafhgllabhbaaDoor
