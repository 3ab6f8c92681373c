/-
  OWN TEXTS.
-/
import Derived.Test.YtjohdbiipeedkaaGreatDoorPart9
set_option maxRecDepth 10000
set_option maxHeartbeats 4000000
namespace Go.Proofs.YtjohdbiipeedkaaGreatDoor
open Go Go.RowKit Go.Proofs.YtjohdbiipeedkaaGreatDoor.Kit
theorem pKeep_any (w : World) (B gz gl hbk : Nat) (y : Hx) (cpu p : Int) (rhbk : w.heap[hbk]? = some (.cells #[.slice y.zo y.zn y.zc, .slice y.mo y.mn y.mc, .int .i64 y.cpus, .slice y.lo y.ln y.lc, .slice y.vo y.vn y.vc] 34 (0, 0))) (HY : HZ w B gz y) (ol : w.ownsRow B 69 4 (.slice y.lo y.ln y.lc) y.ln (c4 (y.ls.map Lc.q))) (el : ∀ a, y.lo = some a → a.block = gl) (al : AwayL gl y) (ah : AwayL hbk y)
    (hhz : hbk ≠ gz) (hhl : hbk ≠ gl) (hzl : gz ≠ gl) (hgw : gl < w.heap.size) (hzw : gz < w.heap.size) (hcap : ∀ l ∈ y.ls, l.pc = l.pn) (hM : HMid y.hp) (hp : 0 ≤ p ∧ p < 256) (hB : B ≤ w.heap.size) :
    Calls Tryz.prog 62 #[.pointer (some ⟨hbk, 0, none⟩), .int .i64 cpu, .int .i64 p] w fun e w' => e = .returned (.int .i64 0) ∧ ∃ y2 : Hx, w'.heap[hbk]? = some (.cells #[.slice y2.zo y2.zn y2.zc, .slice y2.mo y2.mn y2.mc, .int .i64 y2.cpus, .slice y2.lo y2.ln y2.lc, .slice y2.vo y2.vn y2.vc] 34 (0, 0)) ∧ y2.At w' ∧ y2.hp = keepH y.hp cpu p ∧ Ex (fun k => k = gz ∨ k = gl ∨ k = hbk) w w' ∧ (∀ b, b < w.heap.size → b ≠ gl → Away b y → Away b y2) ∧ y2.zo = y.zo := by
 obtain ⟨i, b, hA⟩ := at_exists (riseP_of (riseL_of hM.ls)) ⟨cpu, (zIdx y.hp p : Nat), typeZ (y.hp.zones.getD (zIdx y.hp p) ⟨0, 0, [], []⟩) p, []⟩
 cases b
 ·exact pKeep_f w B gz gl hbk y cpu p i _ _ rhbk HY ol el al ah hhz hhl hzl hgw hzw hcap hM hp hB rfl rfl hA
 exact pKeep_t w B gz gl hbk y cpu p i _ _ rhbk HY ol el al ah hhz hhl hzl hgw hzw hcap hM hp hB rfl rfl hA
def releaseH (H : Hp) (cpu : Int) (b : Bk) : Hp := if 0 < b.o then backH H b.a b.o else keepH H cpu b.a
theorem pRelease_ok (w : World) (B gz gl hbk : Nat) (y : Hx) (cpu a o t : Int) (rhbk : w.heap[hbk]? = some (.cells #[.slice y.zo y.zn y.zc, .slice y.mo y.mn y.mc, .int .i64 y.cpus, .slice y.lo y.ln y.lc, .slice y.vo y.vn y.vc] 34 (0, 0))) (HY : HZ w B gz y) (ol : w.ownsRow B 69 4 (.slice y.lo y.ln y.lc) y.ln (c4 (y.ls.map Lc.q))) (el : ∀ a, y.lo = some a → a.block = gl) (al : AwayL gl y) (ah : AwayL hbk y)
    (hhz : hbk ≠ gz) (hhl : hbk ≠ gl) (hzl : gz ≠ gl) (hgw : gl < w.heap.size) (hzw : gz < w.heap.size) (hcap : ∀ l ∈ y.ls, l.pc = l.pn) (hM : HMid y.hp) (hp : 0 ≤ a ∧ a < 256) (hB : B ≤ w.heap.size) (ho : 0 ≤ o) (hcb : 0 < o → CanBack y.hp a o) :
    Calls Tryz.prog 42 #[.pointer (some ⟨hbk, 0, none⟩), .int .i64 cpu, .agg #[.int .i64 a, .int .i64 o, .int .i64 t]] w fun e w' => e = .returned (.int .i64 0) ∧ ∃ y2 : Hx, w'.heap[hbk]? = some (.cells #[.slice y2.zo y2.zn y2.zc, .slice y2.mo y2.mn y2.mc, .int .i64 y2.cpus, .slice y2.lo y2.ln y2.lc, .slice y2.vo y2.vn y2.vc] 34 (0, 0)) ∧ y2.At w' ∧ y2.hp = releaseH y.hp cpu ⟨a, o, t⟩ ∧ Ex (fun k => k = gz ∨ k = gl ∨ k = hbk) w w' ∧ (∀ b, b < w.heap.size → b ≠ gl → Away b y → Away b y2) ∧ y2.zo = y.zo := by
 have B0 := Below.refl w.heap.size w
 refine sx_enter (args := [_, _, _]) 21 Tryz.func42 rfl rfl rfl ?_
 refine vS (vR ?_); intro A f
 refine l_box f rfl rfl rfl rfl rfl ?_; clear f A; intro b1 W2 eb1 hb3 rb1 A f; dsimp only [Value.cells] at rb1
 have o_hbk_b1 : hbk < b1 := by have := row_lt rhbk; omega
 have z_B0_b1 := B0.size; rw [eb1] at z_B0_b1
 replace B0 := Below.next B0 hb3; replace rhbk := row_next rhbk hb3
 revert A; refine vla (h:=vW (vS (vS (vR (vlf (h:=vl1 (rowq rb1) (h:=vlb (y_gtr rfl rfl rfl) (h:=?_) (g:=?_))))))))
 ·intro c4
  refine vW (vC (h:=vS (vR (vlm (h:=vlf (h:=vl1 (rowq rb1) (h:=vlf (h:=vl1 (rowq rb1) (h:=?_))))))))); intro A f
  refine l_call f rfl rfl rfl (IsCall.mk' (cap := []) rfl rfl rfl) (pl rfl) (pBackF_ok _ B gz hbk y a o rhbk (HY.below B0) hhz (hcb (by omega))) ?_
  clear f A
  rintro _ W5 ⟨rfl, z, hz, HY2, hbt, haf⟩
  refine ⟨_, rfl, ?_⟩
  intro A f
  replace rhbk := But.row hbt rhbk hhz
  have hsB := B0.size
  revert A; refine vla (h:=vW (vE (vF ?_))); intro A f
  refine x_ret1 f rfl rfl ?_
  refine ⟨rfl, y.setZ (zIdx y.hp a) z, rhbk, HY2.at_, ?_, (Ex.of_below B0).trans (Ex.of_but hbt (.inl rfl)), fun b hb _ ha => ?_, rfl⟩
  ·rw [releaseH, if_pos (by show 0 < o; omega)]
   exact setZ_hp hz
  have := haf b (by omega) ⟨ha.f, ha.t⟩
  exact ⟨this.f, this.t, ha.m, ha.l, ha.p, ha.v⟩
 intro c4
 refine vW (vD (h:=vK (vT (vS (vR (vlm (h:=vlm (h:=vlf (h:=vl1 (rowq rb1) (h:=?_))))))))))
 have eo : o = 0 := by omega
 have hsB := B0.size
 intro A f
 refine l_call f rfl rfl rfl (IsCall.mk' (cap := []) rfl rfl rfl) (pl rfl) (pKeep_any _ B gz gl hbk y cpu a rhbk (HY.below B0) (owns_below ol B0 (Nat.le_refl _)) el al ah hhz hhl hzl (by omega) (by omega) hcap hM hp (by omega)) ?_
 clear f A
 rintro _ W6 ⟨rfl, y2, rh2, hAt2, hy2, hex, haw, hzo⟩
 refine ⟨_, rfl, ?_⟩
 refine vla (h:=vW (vE ?_)); intro A f
 refine x_ret1 f rfl rfl ?_
 refine ⟨rfl, y2, rh2, hAt2, ?_, (Ex.of_below B0).trans hex, fun b hb hbl ha => haw b (by omega) hbl ha, hzo⟩
 rw [releaseH, if_neg (by show ¬ 0 < o; omega)]
 exact hy2
theorem drain_may {H : Hp} (h : HMay H) : HMay (emptyH H) ∧ ∀ q, occ (emptyH H) q = occ H q := by
 have R := emptyH_rest H
 have ho : ∀ q, occ (emptyH H) q = occ H q := fun q => by
  have a2 : zcnt (emptyH H) q = zcnt H q + lcnt H.lists q := h.canBacks.2.2 q
  have a3 : lcnt (emptyH H).lists q = 0 := rfl
  unfold occ
  rw [a2, a3, R.2.2.1]
  omega
 exact ⟨hmay_of (emptyH_zs h) ⟨by rw [R.1]; exact h.mn.n, by rw [R.1]; exact h.mn.a, by rw [R.1]; exact h.mn.b⟩ (by rw [R.2.1]; exact h.cpus) (emptyH_ls H) (by rw [R.2.2.1]; exact h.lv) (fun q => by rw [ho q]; exact h.occLe q), ho⟩
theorem typeZ_ok {z : Zn} {p : Int} (h : ZMay z) (h1 : z.f ≤ p) (h2 : p ≤ z.t - 1) : typeOk (typeZ z p) := by
 unfold typeZ
 have := h.len
 exact h.ty _ (by omega)
theorem lv_erase {H : Hp} (h : LvsOk H.live) (i : Nat) : LvsOk (H.live.eraseIdx i) := by
 have g := lvs_iff.1 h
 exact lvs_iff.2 ⟨fun b hb => g.1 b (List.mem_of_mem_eraseIdx hb), g.2.sublist (List.eraseIdx_sublist _ _)⟩
theorem keep_ok {H : Hp} {cpu p : Int} (hZ : ZsOk H) (hL : LssOk H) (hc : 0 ≤ cpu ∧ cpu < H.cpus) (hp : 0 ≤ p ∧ p < 256) (ho : ∀ q, zcnt H q + lcnt H.lists q + hit p 0 q ≤ 1) :
    ZsOk (keepH H cpu p) ∧ LssOk (keepH H cpu p) ∧ (keepH H cpu p).mins = H.mins ∧ (keepH H cpu p).cpus = H.cpus ∧ (keepH H cpu p).live = H.live ∧ SameFT (keepH H cpu p) H ∧ ∀ q, zcnt (keepH H cpu p) q + lcnt (keepH H cpu p).lists q = zcnt H q + lcnt H.lists q + hit p 0 q := by
 have hr := riseP_ls hL
 have hin := zone_in hZ hp.1 hp.2
 have hzl := zIdx_lt H p
 obtain ⟨t, ht⟩ : ∃ t, typeZ (H.zones.getD (zIdx H p) ⟨0, 0, [], []⟩) p = t := ⟨_, rfl⟩
 have hty : typeOk t := by rw [← ht]; exact typeZ_ok hin.1 hin.2.1 hin.2.2
 obtain ⟨z, hz⟩ : ∃ z, zIdx H p = z := ⟨_, rfl⟩
 rw [hz] at hin hzl ht
 obtain ⟨L, hLd⟩ : ∃ L, lsPages H.lists ⟨cpu, (z : Nat), t, []⟩ = L := ⟨_, rfl⟩
 have hLp : L.length ≤ 8 ∧ ∀ q ∈ L, (H.zones.getD z ⟨0, 0, [], []⟩).f ≤ q ∧ q < (H.zones.getD z ⟨0, 0, [], []⟩).t := by
  by_cases h0 : 0 < L.length
  ·obtain ⟨A, hA, c1, c2, c3, c4⟩ := lsPages_list (l := H.lists) (x := ⟨cpu, (z : Nat), t, []⟩) (by rw [hLd]; exact h0)
   rw [hLd] at c4
   dsimp only at c1 c2 c3
   have k := lss_mem hL hA
   have kp := k.p
   have kn := k.n
   rw [c4] at kp kn
   have hzt : A.z.toNat = z := by omega
   rw [hzt] at kp
   refine ⟨kn.2, fun q hq => ?_⟩
   obtain ⟨i, hi, rfl⟩ := List.getElem_of_mem hq
   have := kp i hi
   have e : L.getD i 0 = L[i] := by rw [List.getD_eq_getElem?_getD, List.getElem?_eq_getElem hi]; rfl
   rwa [e] at this
  refine ⟨by omega, fun q hq => ?_⟩
  rw [List.eq_nil_of_length_eq_zero (show L.length = 0 by omega)] at hq
  cases hq
 have hall : ∀ q ∈ L ++ [p], (H.zones.getD z ⟨0, 0, [], []⟩).f ≤ q ∧ q < (H.zones.getD z ⟨0, 0, [], []⟩).t := fun q hq => by
  rcases List.mem_append.1 hq with hq | hq
  ·exact hLp.2 q hq
  rw [List.mem_singleton] at hq; subst hq; exact ⟨hin.2.1, by omega⟩
 have hb := zone_in256 hZ hzl
 have hcL : ∀ q, Kit.cnt (L.map pgB) q ≤ lcnt H.lists q := fun q => by
  have a := setLs_cnt hr ⟨cpu, (z : Nat), t, []⟩ q
  rw [hLd] at a
  have a0 : Kit.cnt (([] : List Int).map pgB) q = 0 := rfl
  dsimp only at a
  omega
 have put : ∀ (G : Hp) (P : List Int), ZsOk G → SameFT G H → G.cpus = H.cpus → G.lists = H.lists → 1 ≤ P.length → P.length ≤ 8 → (∀ q ∈ P, q ∈ L ++ [p]) →
     LssOk { G with lists := setLs G.lists ⟨cpu, (z : Nat), t, P⟩ } ∧ ∀ q, lcnt (setLs G.lists ⟨cpu, (z : Nat), t, P⟩) q + Kit.cnt (L.map pgB) q = lcnt H.lists q + Kit.cnt (P.map pgB) q := by
  intro G P _ hs hcg hlg h1 h8 hm
  refine ⟨lists_put (H := H) hL (fun _ => ?_) (by show setLs G.lists _ = _; rw [hlg]) hcg hs, fun q => ?_⟩
  ·refine ⟨by show 0 ≤ cpu ∧ cpu < G.cpus; rw [hcg]; exact hc, ⟨by dsimp only; omega, by dsimp only; omega⟩, hty, ⟨h1, h8⟩, fun i hi => ?_⟩
   dsimp only at hi ⊢
   rw [show ((z : Nat) : Int).toNat = z from Int.toNat_natCast z]
   have := hall _ (hm _ (getD_mem (d := (0 : Int)) hi))
   show (G.zones.getD z _).f ≤ _ ∧ _ < (G.zones.getD z _).t
   rw [(hs z).1, (hs z).2]
   exact this
  have a := setLs_cnt hr ⟨cpu, (z : Nat), t, P⟩ q
  have e : lsPages H.lists ⟨cpu, (z : Nat), t, P⟩ = L := hLd
  rw [e] at a
  rw [hlg]
  exact a
 unfold keepH
 rw [hz, ht, hLd]
 by_cases h8 : 8 < (L ++ [p]).length
 ·rw [if_pos h8]
  have hl8 : L.length = 8 := by rw [List.length_append] at h8; simp at h8; omega
  have e4 : (L ++ [p]).take 4 = L.take 4 := List.take_append_of_le_length (by omega)
  have hcut : ∀ q, Kit.cnt (((L ++ [p]).take 4).map pgB) q + Kit.cnt (((L ++ [p]).drop 4).map pgB) q = Kit.cnt (L.map pgB) q + hit p 0 q := fun q => by
   rw [← cnt_pgs, List.take_append_drop, cnt_pgs, cnt_pg1]
  obtain ⟨_, b2, b3⟩ := backs_ok ((L ++ [p]).take 4) H hZ (fun q hq => by have := hall q (List.mem_of_mem_take hq); omega) (fun q => by have a1 := ho q; have a2 := hcut q; have a3 := hcL q; omega)
  have bl := backs_lists H ((L ++ [p]).take 4)
  have hft : SameFT (backs H ((L ++ [p]).take 4)) H := fun i => backs_ft i _ H
  obtain ⟨p1, p2⟩ := put (backs H ((L ++ [p]).take 4)) ((L ++ [p]).drop 4) b2 hft bl.2.2.1 bl.1 (by rw [List.length_drop]; omega) (by rw [List.length_drop, List.length_append]; simp; omega) (fun q hq => List.mem_of_mem_drop hq)
  refine ⟨⟨b2.n, b2.m0, b2.m1, b2.f0, b2.f1, b2.t1⟩, by rw [bl.1] at p1; exact p1, bl.2.1, bl.2.2.1, bl.2.2.2, hft, fun q => ?_⟩
  have a1 := p2 q
  have a2 := b3 q
  have a3 := hcut q
  rw [bl.1] at a1
  show zcnt (backs H _) q + lcnt (setLs H.lists _) q = _
  omega
 rw [if_neg h8]
 obtain ⟨p1, p2⟩ := put H (L ++ [p]) hZ (fun _ => ⟨rfl, rfl⟩) rfl rfl (by simp) (by omega) (fun q hq => hq)
 refine ⟨⟨hZ.n, hZ.m0, hZ.m1, hZ.f0, hZ.f1, hZ.t1⟩, p1, rfl, rfl, rfl, fun _ => ⟨rfl, rfl⟩, fun q => ?_⟩
 have a1 := p2 q
 rw [cnt_pgs, cnt_pg1] at a1
 show zcnt H q + lcnt (setLs H.lists _) q = _
 omega
theorem release_may {H : Hp} {cpu : Int} {i : Nat} (h : HMay H) (hc : 0 ≤ cpu ∧ cpu ≤ H.cpus - 1) (hi : i < H.live.length) :
    HMay (releaseH { H with live := H.live.eraseIdx i } cpu (H.live.getD i .zero)) ∧ (releaseH { H with live := H.live.eraseIdx i } cpu (H.live.getD i .zero)).live = H.live.eraseIdx i ∧ (releaseH { H with live := H.live.eraseIdx i } cpu (H.live.getD i .zero)).cpus = H.cpus ∧
     SameFT (releaseH { H with live := H.live.eraseIdx i } cpu (H.live.getD i .zero)) H ∧ ∀ q, occ (releaseH { H with live := H.live.eraseIdx i } cpu (H.live.getD i .zero)) q = occ H q := by
 have hb := h.lv.ok i hi
 have hce := fun q => cnt_erase (l := H.live) hi q
 obtain ⟨b, hbd⟩ : ∃ b, H.live.getD i .zero = b := ⟨_, rfl⟩
 rw [hbd] at hb ⊢
 have hce' : ∀ q, Kit.cnt (H.live.eraseIdx i) q + hit b.a b.o q = Kit.cnt H.live q := fun q => by have := hce q; rwa [hbd] at this
 have hZ : ZsOk { H with live := H.live.eraseIdx i } := ⟨h.zs.n, h.zs.m0, h.zs.m1, h.zs.f0, h.zs.f1, h.zs.t1⟩
 have hL : LssOk { H with live := H.live.eraseIdx i } := ⟨fun k hk => ⟨(h.ls.ok k hk).c, (h.ls.ok k hk).z, (h.ls.ok k hk).t, (h.ls.ok k hk).n, (h.ls.ok k hk).p⟩, h.ls.ord⟩
 have hz0 : ∀ q, zcnt { H with live := H.live.eraseIdx i } q = zcnt H q := fun _ => rfl
 have hoc : ∀ q, zcnt H q + lcnt H.lists q + hit b.a b.o q + Kit.cnt (H.live.eraseIdx i) q = occ H q := fun q => by have := hce' q; unfold occ; omega
 have key : ∀ G : Hp, ZsOk G → LssOk G → G.mins = H.mins → G.cpus = H.cpus → G.live = H.live.eraseIdx i → SameFT G H → (∀ q, zcnt G q + lcnt G.lists q = zcnt H q + lcnt H.lists q + hit b.a b.o q) →
     HMay G ∧ G.live = H.live.eraseIdx i ∧ G.cpus = H.cpus ∧ SameFT G H ∧ ∀ q, occ G q = occ H q := by
  intro G g1 g2 g3 g4 g5 g6 g7
  have go : ∀ q, occ G q = occ H q := fun q => by have a := g7 q; have c := hoc q; unfold occ at c ⊢; rw [g5]; omega
  exact ⟨hmay_of g1 ⟨by rw [g3]; exact h.mn.n, by rw [g3]; exact h.mn.a, by rw [g3]; exact h.mn.b⟩ (by rw [g4]; exact h.cpus) g2 (by rw [g5]; exact lv_erase h.lv i) (fun q => by rw [go q]; exact h.occLe q), g5, g4, g6, go⟩
 unfold releaseH
 by_cases ho : 0 < b.o
 ·rw [if_pos ho]
  obtain ⟨_, k2, k3⟩ := backH_ok hZ (a := b.a) (o := b.o) hb.o hb.m hb.a.1 hb.a.2 (fun q => by have a := hoc q; have c := h.occLe q; rw [hz0 q]; omega)
  have hft : SameFT (backH { H with live := H.live.eraseIdx i } b.a b.o) H := fun k => backH_ft _ _ _ k
  exact key _ k2 (lssOk_ft (H := { H with live := H.live.eraseIdx i }) hL rfl rfl hft) rfl rfl rfl hft (fun q => by have a := k3 q; rw [hz0 q] at a; show zcnt (backH _ _ _) q + lcnt H.lists q = _; omega)
 rw [if_neg ho]
 have ho0 : b.o = 0 := by have := hb.o; unfold ordOk at this; omega
 obtain ⟨k1, k2, k3, k4, k5, k6, k7⟩ := keep_ok (H := { H with live := H.live.eraseIdx i }) (cpu := cpu) (p := b.a) hZ hL (by show 0 ≤ cpu ∧ cpu < H.cpus; omega) hb.a (fun q => by have a := hoc q; have c := h.occLe q; rw [ho0] at a; rw [hz0 q]; show zcnt H q + lcnt H.lists q + hit b.a 0 q ≤ 1; omega)
 exact key _ k1 k2 k3 k4 k5 k6 (fun q => by have a := k7 q; rw [hz0 q] at a; rw [ho0]; exact a)
end Go.Proofs.YtjohdbiipeedkaaGreatDoor
namespace Go.Proofs.YtjohdbiipeedkaaGreatDoor.Kit
structure ZNew (z : Zn) (a b : Int) (c : Int → Bool) : Prop where
 may : ZMay z
 f : z.f = a
 t : z.t = b
 ty : z.types = newTypes a b
 one : ∀ b ∈ z.free, b.t = 1
 cnt : ∀ p, Kit.cnt z.free p = if c p = true then 1 else 0
theorem ZNew.congr {z : Zn} {f t : Int} {c d : Int → Bool} (h : ZNew z f t c) (e : ∀ p, c p = d p) : ZNew z f t d :=
 ⟨h.may, h.f, h.t, h.ty, h.one, fun p => by rw [← e]; exact h.cnt p⟩
theorem znew_zero {f t : Int} (h : newOk f t) : ZNew (newZ f t) f t (fun _ => false) :=
 ⟨newZ_may h, rfl, rfl, rfl, fun b hb => by simp [newZ] at hb, fun p => rfl⟩
theorem go_sub : ∀ (n : Nat) (l : List Bk) (a o : Int), ∀ b ∈ (backGo n l a o).1, b ∈ l
 | 0, l, a, o, b, h => h
 | n + 1, l, a, o, b, h => by
  unfold backGo at h
  split at h
  ·exact dropB_mem (go_sub n _ _ _ b h)
  exact h
theorem newTypes_at {f t : Int} {i : Nat} (h : i < ((t - f) / 8).toNat) : (newTypes f t).getD i 0 = 1 := by
 unfold newTypes
 rw [List.getD_eq_getElem?_getD, List.getElem?_replicate, if_pos h]
 rfl
theorem znew_back {z : Zn} {f t : Int} {c : Int → Bool} (h : ZNew z f t c) {p : Int} (h1 : f ≤ p) (h2 : p < t) (h3 : c p = false) :
    blkIn z.f z.t p 0 ∧ ¬ ovlP z.free p 0 ∧ ZNew (backZ z p 0) f t (fun q => c q || decide (q = p)) := by
 have hin : blkIn z.f z.t p 0 := page_in (by rw [h.f]; exact h1) (by rw [h.t]; exact h2)
 have hh : ∀ q, hit p 0 q = if q = p then 1 else 0 := fun q => by
  unfold hit
  rw [pw_0]
  by_cases e : q = p
  ·rw [if_pos e, if_pos (by omega)]
  rw [if_neg e, if_neg (by omega)]
 have hno : ¬ ovlP z.free p 0 := no_ovl fun q => by
  rw [h.cnt, hh]
  by_cases e : q = p
  ·rw [if_pos e, e, h3, if_neg (by simp)]; omega
  rw [if_neg e]; split <;> omega
 have hm := backZ_may h.may hin hno
 refine ⟨hin, hno, hm, h.f, h.t, h.ty, fun b hb => ?_, fun q => ?_⟩
 ·have hb' := hb
  unfold backZ at hb
  dsimp only at hb
  rcases mem_addB.1 hb with e | hb
  ·have hbi := ((free_iff.1 hm.free).1 b hb').1
   have hn := hm.new
   have hbf : (backZ z p 0).f = f := h.f
   have hbt : (backZ z p 0).t = t := h.t
   rw [hbf, hbt] at hbi hn
   unfold newOk at hn
   unfold blkIn at hbi
   rw [e]
   dsimp only
   rw [h.ty, h.f]
   have ea : b.a = (backGo (4 - 0 : Int).toNat z.free p 0).2.1 := by rw [e]
   rw [← ea]
   exact newTypes_at (by omega)
  exact h.one b (go_sub _ _ _ _ b hb)
 rw [cnt_back (free_iff.1 h.may.free).2 (by omega) (by rw [pw_0]; omega), h.cnt, hh]
 by_cases e : q = p
 ·rw [e, h3]; simp
 simp [e]
theorem znew_give {f t : Int} : ∀ (n : Nat) (z : Zn) (a : Int) (c : Int → Bool), ZNew z f t c → f ≤ a → a + n ≤ t → (∀ p, a ≤ p → p < a + n → c p = false) →
    ∃ Y, giveK n z a = some Y ∧ ZNew Y f t (fun q => c q || decide (a ≤ q ∧ q < a + n))
 | 0, z, a, c, h, _, _, _ => ⟨z, rfl, h.congr fun q => by
     rw [decide_eq_false (by omega)]; simp⟩
 | n + 1, z, a, c, h, h1, h2, h3 => by
  obtain ⟨_, hno, hN⟩ := znew_back h h1 (by omega) (h3 a (by omega) (by omega))
  rw [give_some hno]
  obtain ⟨Y, e, hY⟩ := znew_give n (backZ z a 0) (a + 1) _ hN (by omega) (by omega) (fun q g1 g2 => by
   rw [h3 q (by omega) (by omega), decide_eq_false (by omega)]; rfl)
  refine ⟨Y, e, hY.congr fun q => ?_⟩
  rw [Bool.or_assoc]
  congr 1
  rw [Bool.eq_iff_iff]
  simp only [Bool.or_eq_true, decide_eq_true_eq]
  omega
theorem znew_unique {z y : Zn} {f t : Int} {c : Int → Bool} (hz : ZNew z f t c) (hy : ZNew y f t c) : z = y := by
 have h := free_unique hz.may hy.may (hz.f.trans hy.f.symm) (hz.t.trans hy.t.symm) (fun p => by rw [hz.cnt, hy.cnt])
 have key : ∀ (l m : List Bk), (∀ b ∈ l, b.t = 1) → (∀ b ∈ m, b.t = 1) → ao l = ao m → l = m := by
  intro l
  induction l with
  | nil => intro m _ _ e; cases m with
   | nil => rfl
   | cons b m => simp [ao] at e
  | cons x l ih => intro m h1 h2 e; cases m with
   | nil => simp [ao] at e
   | cons b m =>
    simp only [ao, List.map_cons, List.cons.injEq, Prod.mk.injEq] at e
    rw [ih m (fun b hb => h1 b (by simp [hb])) (fun b hb => h2 b (by simp [hb])) e.2]
    have e1 := h1 x (by simp)
    have e2 := h2 b (by simp)
    obtain ⟨xa, xo, xt⟩ := x
    obtain ⟨ba, bo, bt⟩ := b
    dsimp only at e e1 e2
    rw [e1, e2, e.1.1, e.1.2]
 have e := key z.free y.free hz.one hy.one h
 have e1 := hz.f.trans hy.f.symm
 have e2 := hz.t.trans hy.t.symm
 have e3 := hz.ty.trans hy.ty.symm
 obtain ⟨zf, zt, zl, zy⟩ := z
 obtain ⟨yf, yt, yl, yy⟩ := y
 dsimp only at e e1 e2 e3
 rw [e, e1, e2, e3]
def inZ (l : List (Int × Int)) (f t p : Int) : Bool := inL l p && decide (f ≤ p ∧ p < t)
theorem inL_snoc (l : List (Int × Int)) (k : Nat) (h : k < l.length) (p : Int) {x y : Int} (e : l.getD k (0, 0) = (x, y)) : inL (l.take (k + 1)) p = (inL (l.take k) p || decide (x ≤ p ∧ p ≤ x + y - 1)) := by
 rw [List.getD_eq_getElem?_getD, List.getElem?_eq_getElem h] at e
 simp only [Option.getD_some] at e
 unfold inL
 rw [List.take_succ_eq_append_getElem h, List.any_append, e]
 simp
theorem inL_before {l : List (Int × Int)} (h : MayP l) {k : Nat} (hk : k < l.length) {x y : Int} (e : l.getD k (0, 0) = (x, y)) {p : Int} (hp : x ≤ p) : inL (l.take k) p = false := by
 have rise : ∀ j i, i + j < l.length → (l.getD i (0, 0)).1 + (if j = 0 then 0 else (l.getD i (0, 0)).2 + 1) ≤ (l.getD (i + j) (0, 0)).1 := by
  intro j
  induction j with
  | zero => intro i hi; simp
  | succ j ih =>
   intro i hi
   have h1 := ih i (by omega)
   have h2 := h.gap (i + j) (by omega)
   have h3 := h.ok (i + j) (by omega)
   unfold regOk at h3
   rw [if_neg (by omega)]
   rw [show i + (j + 1) = i + j + 1 by omega]
   by_cases e : j = 0
   ·subst e
    rw [show i + 0 = i by omega] at h2 ⊢
    omega
   rw [if_neg e] at h1
   omega
 unfold inL
 rw [List.any_eq_false]
 intro r hr
 obtain ⟨i, hi, rfl⟩ := List.getElem_of_mem hr
 have hi' : i < k := by rw [List.length_take] at hi; omega
 have := rise (k - i) i (by omega)
 rw [if_neg (by omega), show i + (k - i) = k by omega, e] at this
 rw [List.getElem_take]
 rw [List.getD_eq_getElem?_getD, List.getElem?_eq_getElem (by omega : i < l.length)] at this
 simp only [Option.getD_some] at this
 simp only [decide_eq_true_eq]
 omega
theorem znew_step {z : Zn} {f t : Int} {l : List (Int × Int)} (hM : MayP l) {k : Nat} (h : ZNew z f t (inZ (l.take k) f t)) (hk : k < l.length) {x y : Int} (e : l.getD k (0, 0) = (x, y)) :
    (¬ max x f ≥ min (x + y) t → giveOk z (max x f) (min (x + y) t - max x f) ∧ ∃ Y, giveK (min (x + y) t - max x f).toNat z (max x f) = some Y ∧ ZNew Y f t (inZ (l.take (k + 1)) f t)) ∧
    (max x f ≥ min (x + y) t → ZNew z f t (inZ (l.take (k + 1)) f t)) := by
 have hs := fun p => inL_snoc l k hk p e
 constructor
 ·intro hg
  have hn := h.may.new
  rw [h.f, h.t] at hn
  unfold newOk at hn
  refine ⟨by unfold giveOk; rw [h.f, h.t]; omega, ?_⟩
  obtain ⟨Y, e1, e2⟩ := znew_give (min (x + y) t - max x f).toNat z (max x f) _ h (by omega) (by omega) (fun p h1 _ => by
   unfold inZ
   rw [inL_before hM hk e (by omega)]
   rfl)
  refine ⟨Y, e1, e2.congr fun p => ?_⟩
  unfold inZ
  rw [hs, Bool.eq_iff_iff]
  simp only [Bool.or_eq_true, Bool.and_eq_true, decide_eq_true_eq]
  constructor
  ·rintro (⟨a, b⟩ | a)
   ·exact ⟨.inl a, b⟩
   exact ⟨.inr (by omega), by omega⟩
  rintro ⟨a | a, b⟩
  ·exact .inl ⟨a, b⟩
  exact .inr (by omega)
 intro hg
 refine h.congr fun p => ?_
 unfold inZ
 rw [hs, Bool.eq_iff_iff]
 simp only [Bool.or_eq_true, Bool.and_eq_true, decide_eq_true_eq]
 constructor
 ·rintro ⟨a, b⟩; exact ⟨.inl a, b⟩
 rintro ⟨a | a, b⟩
 ·exact ⟨a, b⟩
 omega
def inQ (l : List (Int × Int)) (f t q p : Int) : Bool := inZ l f t p && decide (p < q)
end Go.Proofs.YtjohdbiipeedkaaGreatDoor.Kit
namespace Go.Proofs.YtjohdbiipeedkaaGreatDoor
open Go Go.RowKit Go.Proofs.YtjohdbiipeedkaaGreatDoor.Kit
structure OffZ (P : Nat → Prop) (fo to_ : Option Addr) (Z : Zn) : Prop where
 f : 0 < Z.free.length → ∀ a, fo = some a → P a.block
 t : 0 < Z.types.length → ∀ a, to_ = some a → P a.block
theorem zn_but {w w' : World} {b : Nat} {fo : Option Addr} {fn : Nat} {to_ : Option Addr} {tn : Nat} {z : Zn} (h : ZnAt w fo fn to_ tn z) (hb : But b w w')
    (h1 : 0 < z.free.length → ∀ a, fo = some a → a.block ≠ b) (h2 : 0 < z.types.length → ∀ a, to_ = some a → a.block ≠ b) : ZnAt w' fo fn to_ tn z :=
 ⟨blks_but h.free hb h1, nums_but h.types hb h2⟩
theorem regs_none (w : World) : Regs w none 0 [] := ⟨rfl, by omega, fun i hi => absurd hi (by simp)⟩
theorem mayP_nil : MayP [] := ⟨by decide, fun i hi => absurd hi (by simp), fun i hi => absurd hi (by simp)⟩
theorem newOk_high {s : Int} (h : newOk 0 s) : newOk s 256 := by
 unfold newOk at h ⊢
 omega
def newGood (least cpus : Int) : Prop := (0 ≤ least ∧ least ≤ 256) ∧ (1 ≤ cpus ∧ cpus ≤ 4)
def NewH (H : Hp) (l : List (Int × Int)) (split least cpus : Int) : Prop :=
 ∃ Z0 Z1, ZNew Z0 0 split (inZ l 0 split) ∧ ZNew Z1 split 256 (inZ l split 256) ∧ H = ⟨[Z0, Z1], [least, least], cpus, [], []⟩
theorem newH_unique {H G : Hp} {l : List (Int × Int)} {split least cpus : Int} (h : NewH H l split least cpus) (g : NewH G l split least cpus) : H = G := by
 obtain ⟨Z0, Z1, h0, h1, rfl⟩ := h
 obtain ⟨Y0, Y1, g0, g1, rfl⟩ := g
 rw [znew_unique h0 g0, znew_unique h1 g1]
def newX (z0 z1 : Zc) (gz gm : Nat) (least cpus : Int) : Hx := ⟨[z0, z1], some ⟨gz, 0, none⟩, 2, 2, [least, least], some ⟨gm, 0, none⟩, 2, 2, cpus, [], none, 0, 0, [], none, 0, 0⟩
theorem newX_at {W : World} {z0 z1 : Zc} {gz gm : Nat} {least cpus : Int}
    (rz : W.heap[gz]? = some (.cells #[.int .i64 z0.z.f, .int .i64 z0.z.t, .slice z0.fo z0.fn z0.fc, .slice z0.to_ z0.tn z0.tc, .int .i64 z1.z.f, .int .i64 z1.z.t, .slice z1.fo z1.fn z1.fc, .slice z1.to_ z1.tn z1.tc] 54 (0, 0)))
    (rm : W.heap[gm]? = some (.cells #[.int .i64 least, .int .i64 least] 3 (0, 0))) (h0 : z0.At W) (h1 : z1.At W) : (newX z0 z1 gz gm least cpus).At W := by
 refine ⟨⟨rfl, by show 2 * 64 ≤ _; omega, fun i hi => ?_, fun z hz => ?_⟩, ⟨rfl, by show 2 * 8 ≤ _; omega, fun i hi => ?_⟩, Lsts.nil _, Blks.nil _⟩
 ·refine ⟨gz, 0, rfl, ?_⟩
  have hi' : i < 2 := hi
  rcases (show i = 0 ∨ i = 1 by omega) with rfl | rfl
  ·exact ⟨cell_of_row W gz 0 _ _ _ rz, cell_of_row W gz 1 _ _ _ rz, cell_of_row W gz 2 _ _ _ rz, cell_of_row W gz 3 _ _ _ rz⟩
  exact ⟨cell_of_row W gz 4 _ _ _ rz, cell_of_row W gz 5 _ _ _ rz, cell_of_row W gz 6 _ _ _ rz, cell_of_row W gz 7 _ _ _ rz⟩
 ·have hz' : z ∈ [z0, z1] := hz
  simp only [List.mem_cons, List.not_mem_nil, or_false] at hz'
  rcases hz' with rfl | rfl
  ·exact h0
  exact h1
 refine ⟨gm, 0, rfl, ?_⟩
 have hi' : i < 2 := hi
 rcases (show i = 0 ∨ i = 1 by omega) with rfl | rfl
 ·exact cell_of_row W gm 0 _ _ _ rm
 exact cell_of_row W gm 1 _ _ _ rm
theorem bs_zone2 (a b c d p q r s : Value) (w : World) : (Instr.buildSlice 29 2 #[(0, .agg #[a, b, c, d]), (1, .agg #[p, q, r, s])]).run Tryz.prog w = .ok (.slice (some ⟨w.heap.size, 0, none⟩) 2 2) (w.alloc (.cells #[a, b, c, d, p, q, r, s] 54)) := by
 simp [go_sem]
theorem bs_int2 (a b : Int) (w : World) : (Instr.buildSlice 30 2 #[(0, .int .i64 a), (1, .int .i64 b)]).run Tryz.prog w = .ok (.slice (some ⟨w.heap.size, 0, none⟩) 2 2) (w.alloc (.cells #[.int .i64 a, .int .i64 b] 3)) := by
 simp [go_sem]
end Go.Proofs.YtjohdbiipeedkaaGreatDoor
namespace Go.Proofs.YtjohdbiipeedkaaGreatDoor.Kit
def starts (h : Int → Bool) : Nat → Nat
 | 0 => 0
 | k + 1 => if h k = true ∧ ¬ (0 < k ∧ h (k - 1) = true) then starts h k + 1 else starts h k
theorem drawn_starts (h : Int → Bool) (k : Nat) : (drawnK h k).length = starts h k := by
 induction k with
 | zero => rfl
 | succ k ih =>
  simp only [drawnK, starts]
  by_cases h1 : h k = true
  ·by_cases h2 : 0 < k ∧ h (k - 1) = true
   ·rw [if_pos h1, if_pos h2, if_neg (fun g => g.2 h2)]
    unfold bump
    rw [List.length_set, ih]
   rw [if_pos h1, if_neg h2, if_pos ⟨h1, h2⟩, List.length_append, ih]
   rfl
  rw [if_neg h1, if_neg (fun g => h1 g.1), ih]
theorem starts_mono (h : Int → Bool) {j k : Nat} (hjk : j ≤ k) : starts h j ≤ starts h k := by
 induction k with
 | zero => obtain rfl : j = 0 := by omega
           exact Nat.le_refl _
 | succ k ih =>
  by_cases e : j = k + 1
  ·rw [e]; exact Nat.le_refl _
  have := ih (by omega)
  simp only [starts]
  split <;> omega
theorem starts_change (h g : Int → Bool) (wth : Bool) (f s : Nat) (hs : 1 ≤ s) (hout : ∀ p : Int, (p < f ∨ f + s ≤ p) → g p = h p) (hin : ∀ p : Int, f ≤ p → p < f + s → g p = wth) (k : Nat) : starts g k ≤ starts h k + 1 := by
 have p1 : ∀ k, k ≤ f → starts g k = starts h k := by
  intro k
  induction k with
  | zero => intro _; rfl
  | succ k ih =>
   intro hk
   have := ih (by omega)
   simp only [starts]
   rw [hout k (by omega), hout (k - 1) (by omega), this]
 have p2 : ∀ k, f + 1 ≤ k → k ≤ f + s → starts g k ≤ starts h f + (if wth = true then 1 else 0) := by
  intro k
  induction k with
  | zero => intro hk; omega
  | succ k ih =>
   intro hk1 hk2
   simp only [starts]
   by_cases e : k = f
   ·subst e
    rw [p1 k (Nat.le_refl _), hin k (by omega) (by omega)]
    cases wth with
    | true => split <;> simp
    | false => rw [if_neg (fun g => by cases g.1)]; simp
   have := ih (by omega) (by omega)
   rw [hin k (by omega) (by omega), hin (k - 1) (by omega) (by omega)]
   rw [if_neg (fun g => g.2 ⟨by omega, g.1⟩)]
   exact this
 have p3 : starts g (f + s + 1) ≤ starts h f + 1 := by
  have h2 := p2 (f + s) (by omega) (Nat.le_refl _)
  show (if g ((f + s : Nat) : Int) = true ∧ ¬ (0 < f + s ∧ g (((f + s : Nat) : Int) - 1) = true) then starts g (f + s) + 1 else starts g (f + s)) ≤ _
  rw [hin (((f + s : Nat) : Int) - 1) (by omega) (by omega)]
  cases wth with
  | true =>
   rw [if_neg (fun q => q.2 ⟨by omega, rfl⟩)]
   simpa using h2
  | false =>
   simp only [Bool.false_eq_true, if_false, Nat.add_zero] at h2
   split <;> omega
 have p4 : ∀ k, f + s + 1 ≤ k → starts g k ≤ starts h k + 1 ∧ (starts h (f + s + 1) ≤ starts h k) := by
  intro k
  induction k with
  | zero => intro hk; omega
  | succ k ih =>
   intro hk
   by_cases e : k = f + s
   ·rw [e]
    have := starts_mono h (show f ≤ f + s + 1 by omega)
    exact ⟨by omega, Nat.le_refl _⟩
   obtain ⟨i1, i2⟩ := ih (by omega)
   refine ⟨?_, Nat.le_trans i2 (starts_mono h (by omega))⟩
   simp only [starts]
   rw [hout k (by omega), hout (k - 1) (by omega)]
   split <;> omega
 by_cases h1 : k ≤ f
 ·rw [p1 k h1]; omega
 by_cases h2 : k ≤ f + s
 ·have a := p2 k (by omega) h2
  have b := starts_mono h (show f ≤ k by omega)
  split at a <;> omega
 exact (p4 k (by omega)).1
theorem drawnAll_starts (h : Int → Bool) : (drawnAll h).length = starts h 256 := by
 rw [← drawn_all h 256 rfl]; exact drawn_starts h 256
def allF (h : Int → Bool) (p : Int) : Nat → Bool
 | 0 => true
 | c + 1 => allF h p c && h (p + c)
def okAt (h : Int → Bool) (sz al p : Nat) : Bool := decide (p % al = 0) && allF h p sz
def bestK (h : Int → Bool) (sz al lo : Nat) (down : Bool) : Nat → Int
 | 0 => -1
 | j + 1 => if okAt h sz al (lo + j) = true ∧ (bestK h sz al lo down j < 0 ∨ down = true) then ((lo + j : Nat) : Int) else bestK h sz al lo down j
end Go.Proofs.YtjohdbiipeedkaaGreatDoor.Kit
namespace Go.Proofs.YtjohdbiipeedkaaGreatDoor
open Go Go.RowKit Go.Proofs.YtjohdbiipeedkaaGreatDoor.Kit
theorem info_region : (Tryz.prog.info? 47).map (fun i => (i.zero, i.size, i.bytes)) = some (some (.agg #[.int .i64 0, .int .i64 0]), 2, 16) := by kernel_rfl
theorem drawn_len (h : Int → Bool) (k : Nat) : (drawnK h k).length ≤ k := by
 induction k with
 | zero => simp [drawnK]
 | succ k ih =>
  simp only [drawnK]
  split
  ·split
   ·simp [bump]; omega
   simp; omega
  omega
def GoodTo (l : List (Int × Int)) (k : Nat) : Prop :=
 (∀ i, i < k → regOk (l.getD i (0, 0))) ∧ ∀ i, i + 1 < k → (l.getD i (0, 0)).1 + (l.getD i (0, 0)).2 < (l.getD (i + 1) (0, 0)).1
theorem goodTo_zero (l : List (Int × Int)) : GoodTo l 0 := ⟨fun i hi => by omega, fun i hi => by omega⟩
theorem goodTo_one {l : List (Int × Int)} (h : regOk (l.getD 0 (0, 0))) : GoodTo l 1 := by
 refine ⟨fun i hi => ?_, fun i hi => by omega⟩
 obtain rfl : i = 0 := by omega
 exact h
theorem goodTo_succ {l : List (Int × Int)} {k : Nat} (h : GoodTo l (k + 1)) (h1 : regOk (l.getD (k + 1) (0, 0))) (h2 : (l.getD k (0, 0)).1 + (l.getD k (0, 0)).2 < (l.getD (k + 1) (0, 0)).1) : GoodTo l (k + 2) := by
 refine ⟨fun i hi => ?_, fun i hi => ?_⟩
 ·by_cases e : i = k + 1
  ·rw [e]; exact h1
  exact h.1 i (by omega)
 by_cases e : i = k
 ·rw [e]; exact h2
 exact h.2 i (by omega)
def chH (f s : Int) (wth : Bool) (L : List (Int × Int)) (p : Int) : Bool := if inB p f (f + s - 1) = true then wth else inL L p
def freeH (M R : List (Int × Int)) (p : Int) : Bool := inL M p && !inL R p
structure AlInv (w : World) (mo : Option Addr) (mn mc : Nat) (M : List (Int × Int)) (ro : Option Addr) (rn rc : Nat) (R : List (Int × Int)) (W : World) : Prop where
 size : w.heap.size + 2 ≤ W.heap.size
 b : Below w.heap.size w W
 c0 : W.cell? ⟨w.heap.size, 0, none⟩ = some (.slice mo mn mc)
 c1 : W.cell? ⟨w.heap.size, 1, none⟩ = some (.slice ro rn rc)
 res : Res2 W (w.heap.size + 1)
 m : Regs W mo mn M
 r : Regs W ro rn R
theorem AlInv.step {w : World} {mo : Option Addr} {mn mc : Nat} {M : List (Int × Int)} {ro : Option Addr} {rn rc : Nat} {R : List (Int × Int)} {W W' : World} (h : AlInv w mo mn mc M ro rn rc R W) (hb : Below W.heap.size W W') : AlInv w mo mn mc M ro rn rc R W' :=
 ⟨Nat.le_trans h.size hb.size, h.b.trans (hb.mono (by have := h.size; omega)), keep h.c0 hb, keep h.c1 hb, h.res.below hb, h.m.below hb, h.r.below hb⟩
def places (sz lo hi : Nat) : Nat := hi + 1 - (lo + sz)
def AllocEnd (w w' : World) (M R : List (Int × Int)) (sz : Nat) (B : Int) (e : Ending) : Prop :=
 (B < 0 ∧ e = .returned (.tuple #[.agg #[.slice none 0 0, .slice none 0 0], .int .i64 0, .int .i64 6])) ∨
 (0 ≤ B ∧ 40 < (drawnAll (chH B sz true R)).length ∧ e = .returned (.tuple #[.agg #[.slice none 0 0, .slice none 0 0], .int .i64 0, .int .i64 9])) ∨
 (0 ≤ B ∧ (drawnAll (chH B sz true R)).length ≤ 40 ∧ ∃ m1 n1 c1 r1 n2 c2, e = .returned (.tuple #[.agg #[.slice m1 n1 c1, .slice r1 n2 c2], .int .i64 B, .int .i64 0]) ∧ Regs w' m1 n1 M ∧ Regs w' r1 n2 (drawnAll (chH B sz true R)) ∧ Fresh w.heap.size m1 ∧ Fresh w.heap.size r1)
theorem may_drawn {L : List (Int × Int)} (h : MayP L) : drawnAll (inL L) = L := drawn_of_canon (canon_of_may h) (fun _ _ _ => rfl)
structure CurOk (cur : Array Value) (M R : List (Int × Int)) : Prop where
 size : cur.size = 512
 m : ∀ p : Nat, p < 256 → cur[p]? = some (.bool (inL M p))
 r : ∀ p : Nat, p < 256 → cur[256 + p]? = some (.bool (inL R p))
def stK (cur : Array Value) (o : Nat) (wth : Bool) : Nat → Array Value
 | 0 => cur
 | q + 1 => (stK cur o wth q).setIfInBounds (o + q) (.bool wth)
theorem ret_int {k : IntKind} {a b : Int} (h : a = b) : Ending.returned (.int k a) = .returned (.int k b) := by rw [h]
def pickN (n : Int) (many : Nat) : Nat := ((if n < 0 then -(n + 1) else n) % many).toNat
theorem pickN_lt (n : Int) (many : Nat) (h : 1 ≤ many) : pickN n many < many := by
 unfold pickN
 have h1 := Int.emod_lt_of_pos (if n < 0 then -(n + 1) else n) (show (0 : Int) < many by omega)
 have h2 := Int.emod_nonneg (if n < 0 then -(n + 1) else n) (show (many : Int) ≠ 0 by omega)
 omega
theorem picked_fn (n mi : Int) (many : Nat) (hmi : mi = many) (wf : (Lit.int .i64 n).wf = true) (h1 : 1 ≤ many) (h2 : many ≤ 1152921504606846976) (w : World) :
    Calls Tryz.prog 21 #[.int .i64 n, .int .i64 mi] w fun e w' => e = .returned (.int .i64 (pickN n many)) ∧ w = w' := by
 subst hmi
 have hb := bounds_i64 wf
 obtain ⟨b1, b2⟩ := hb
 have hm : ((many : Int) == 0) = false := by simp; omega
 clear wf
 by_cases h : n < 0
 ·have e1 := Int.emod_lt_of_pos (-(n + 1)) (show (0 : Int) < many by omega)
  have e2 := Int.emod_nonneg (-(n + 1)) (show (many : Int) ≠ 0 by omega)
  have e3 : (n + 1).tmod many = -((-(n + 1)) % many) := by
   have := Int.neg_tmod (-(n + 1)) many
   rw [Int.neg_neg] at this
   rw [this, Int.tmod_eq_emod_of_nonneg (by omega)]
  have HP : Hid ((pickN n many : Int) = -((n + 1).tmod many)) := by
   show _ = _
   unfold pickN
   rw [if_pos h, e3]; omega
  clear e1 e2 e3
  go_enter Tryz.func21, Tryz.ntmps21
  go_wp2
  go_ret
  exact ⟨ret_int HP.out.symm, rfl⟩
 have e2 := Int.emod_nonneg n (show (many : Int) ≠ 0 by omega)
 have HP : Hid ((pickN n many : Int) = n % many) := by
  show _ = _
  unfold pickN
  rw [if_neg h]; omega
 clear e2
 go_enter Tryz.func21, Tryz.ntmps21
 go_wp2
 go_ret
 exact ⟨ret_int HP.out.symm, rfl⟩
def suM (a b c : Int) : List (Int × Int) := [((pickN a 20 : Int), 40 + (pickN b 60 : Int)), (130 + (pickN c 10 : Int), 16 + (pickN a 90 : Int))]
def suR (a b c : Int) : List (Int × Int) := [((pickN a 20 : Int) + pickN c 30, 1 + (pickN a 7 : Int)), (150 + (pickN b 9 : Int), 1 + (pickN c 5 : Int))]
theorem may_two {x y u v : Int} (h1 : regOk (x, y)) (h2 : regOk (u, v)) (h3 : x + y < u) : MayP [(x, y), (u, v)] := by
 refine ⟨by simp, fun i hi => ?_, fun i hi => ?_⟩
 ·have hi' : i < 2 := hi
  rcases (show i = 0 ∨ i = 1 by omega) with rfl | rfl
  ·exact h1
  exact h2
 have hi' : i + 1 < 2 := hi
 obtain rfl : i = 0 := by omega
 exact h3
theorem suM_may (a b c : Int) : MayP (suM a b c) := by
 have h1 := pickN_lt a 20 (by omega)
 have h2 := pickN_lt b 60 (by omega)
 have h3 := pickN_lt c 10 (by omega)
 have h4 := pickN_lt a 90 (by omega)
 exact may_two (by unfold regOk; dsimp only; omega) (by unfold regOk; dsimp only; omega) (by omega)
theorem suR_may (a b c : Int) : MayP (suR a b c) := by
 have h1 := pickN_lt a 20 (by omega)
 have h2 := pickN_lt c 30 (by omega)
 have h3 := pickN_lt a 7 (by omega)
 have h4 := pickN_lt b 9 (by omega)
 have h5 := pickN_lt c 5 (by omega)
 exact may_two (by unfold regOk; dsimp only; omega) (by unfold regOk; dsimp only; omega) (by omega)
theorem bs_reg2 (x y u v : Value) (w : World) : (Instr.buildSlice 23 2 #[(0, .agg #[x, y]), (1, .agg #[u, v])]).run Tryz.prog w = .ok (.slice (some ⟨w.heap.size, 0, none⟩) 2 2) (w.alloc (.cells #[x, y, u, v] 47)) := by
 simp [go_sem]
theorem regs_two {w : World} {g : Nat} {x y u v : Int} {l : List (Int × Int)} (h : w.heap[g]? = some (.cells #[.int .i64 x, .int .i64 y, .int .i64 u, .int .i64 v] 47 (0, 0))) (hl : l = [(x, y), (u, v)]) : Regs w (some ⟨g, 0, none⟩) 2 l := by
 subst hl
 refine ⟨rfl, by omega, fun i hi => ⟨g, 0, rfl, ?_⟩⟩
 have hi' : i < 2 := hi
 rcases (show i = 0 ∨ i = 1 by omega) with rfl | rfl
 ·exact ⟨cell_of_row _ g 0 _ _ _ h, cell_of_row _ g 1 _ _ _ h⟩
 exact ⟨cell_of_row _ g 2 _ _ _ h, cell_of_row _ g 3 _ _ _ h⟩
theorem setup_c (w : World) (a b c : Int) (wa : (Lit.int .i64 a).wf = true) (wb : (Lit.int .i64 b).wf = true) (wc : (Lit.int .i64 c).wf = true) :
    Calls Tryz.prog 9 #[.int .i64 a, .int .i64 b, .int .i64 c] w fun e w' => ∃ gm gr, e = .returned (.agg #[.slice (some ⟨gm, 0, none⟩) 2 2, .slice (some ⟨gr, 0, none⟩) 2 2, .int .i64 (16 * (pickN a 9 : Int)), .int .i64 (pickN b 12 : Int), .int .i64 (1 + (pickN c 4 : Int))]) ∧ Regs w' (some ⟨gm, 0, none⟩) 2 (suM a b c) ∧ Regs w' (some ⟨gr, 0, none⟩) 2 (suR a b c) ∧ Below w.heap.size w w' := by
 have qa9 := pickN_lt a 9 (by omega)
 have qb12 := pickN_lt b 12 (by omega)
 have qc4 := pickN_lt c 4 (by omega)
 have qa20 := pickN_lt a 20 (by omega)
 have qb60 := pickN_lt b 60 (by omega)
 have qc10 := pickN_lt c 10 (by omega)
 have qa90 := pickN_lt a 90 (by omega)
 have qc30 := pickN_lt c 30 (by omega)
 have qa7 := pickN_lt a 7 (by omega)
 have qb9 := pickN_lt b 9 (by omega)
 have qc5 := pickN_lt c 5 (by omega)
 have B0 := Below.refl w.heap.size w
 refine sx_enter (args := [_, _, _]) 54 Tryz.func9 rfl rfl rfl ?_
 refine vS (vR ?_); intro A f
 refine l_alloc (z := .agg #[.slice none 0 0, .slice none 0 0, .int .i64 0, .int .i64 0, .int .i64 0]) f rfl rfl rfl rfl (by kernel_rfl) ?_; clear f A; intro b1 W2 eb1 hb3 rb1 A f; dsimp only [Value.cells] at rb1
 have z_B0_b1 := B0.size; rw [eb1] at z_B0_b1
 replace B0 := Below.next B0 hb3
 revert A; refine vW (vS (vR (vlm (h:=vlc (c_same (picked_fn a 9 9 rfl wa (by omega) (by omega) _)) (h:=?_))))); intro W5 hb4; replace B0 := Below.next B0 hb4; replace rb1 := row_next rb1 hb4
 refine vld (y_mul rfl rfl rfl rfl (by omega)) (h:=vlm (h:=vlc (c_same (picked_fn b 12 12 rfl wb (by omega) (by omega) _)) (h:=?_))); intro W7 hb6; replace B0 := Below.next B0 hb6; replace rb1 := row_next rb1 hb6
 refine vlm (h:=vlc (c_same (picked_fn c 4 4 rfl wc (by omega) (by omega) _)) (h:=?_)); intro W9 hb8; replace B0 := Below.next B0 hb8; replace rb1 := row_next rb1 hb8
 refine vlA (h:=vld (y_build #[.slice none 0 0, .slice none 0 0, .int .i64 (16 * (pickN a 9 : Int)), .int .i64 (pickN b 12), .int .i64 (1 + (pickN c 4 : Int))] rfl rfl (by kernel_rfl)) (h:=?_)); intro A f
 refine l_as (z := .agg #[.slice none 0 0, .slice none 0 0, .int .i64 0, .int .i64 0, .int .i64 0]) f rfl rfl rfl rfl (by kernel_rfl) rfl rfl (fun _ => rfl) (fun _ => rfl) rfl (by intro u hu; simp [Value.cells] at hu; rcases hu with rfl | rfl | rfl | rfl | rfl <;> rfl) ?_; clear f A; intro b10 W11 eb10 hb12 rb10 A f
 dsimp only [Value.cells] at rb10
 have hpb10 := hb12
 have o_b1_b10 : b1 < b10 := by have := row_lt rb1; omega
 have z_B0_b10 := B0.size; rw [eb10] at z_B0_b10
 replace B0 := Below.next B0 hb12; replace rb1 := row_next rb1 hb12
 revert A; refine vW (vS (vR (vlm (h:=vlc (c_same (picked_fn a 20 20 rfl wa (by omega) (by omega) _)) (h:=?_))))); intro W14 hb13; replace B0 := Below.next B0 hb13; replace rb1 := row_next rb1 hb13; replace rb10 := row_next rb10 hb13
 refine vla (h:=vW (vS (vR (vlm (h:=vlm (h:=vlc (c_same (picked_fn b 60 60 rfl wb (by omega) (by omega) _)) (h:=?_))))))); intro W16 hb15; replace B0 := Below.next B0 hb15; replace rb1 := row_next rb1 hb15; replace rb10 := row_next rb10 hb15
 refine vlA (h:=vld (y_build #[.int .i64 (pickN a 20), .int .i64 (40 + (pickN b 60 : Int))] rfl rfl (by kernel_rfl)) (h:=vlm (h:=vlc (c_same (picked_fn c 10 10 rfl wc (by omega) (by omega) _)) (h:=?_)))); intro W18 hb17; replace B0 := Below.next B0 hb17; replace rb1 := row_next rb1 hb17; replace rb10 := row_next rb10 hb17
 refine vlA (h:=vlm (h:=vlc (c_same (picked_fn a 90 90 rfl wa (by omega) (by omega) _)) (h:=?_))); intro W20 hb19; replace B0 := Below.next B0 hb19; replace rb1 := row_next rb1 hb19; replace rb10 := row_next rb10 hb19
 refine vlA (h:=vld (y_build #[.int .i64 (130 + (pickN c 10 : Int)), .int .i64 (16 + (pickN a 90 : Int))] rfl rfl (by kernel_rfl)) (h:=?_))
 obtain ⟨gm, hgm⟩ : ∃ g, g = W20.heap.size := ⟨_, rfl⟩
 have o_b1_gm : b1 < gm := by have := row_lt rb1; omega
 have o_b10_gm : b10 < gm := by have := row_lt rb10; omega
 intro A f
 refine l_opR (R := fun v W => v = .slice (some ⟨gm, 0, none⟩) 2 2 ∧ Below W20.heap.size W20 W ∧ W.heap[gm]? = some (.cells #[.int .i64 (pickN a 20), .int .i64 (40 + (pickN b 60 : Int)), .int .i64 (130 + (pickN c 10 : Int)), .int .i64 (16 + (pickN a 90 : Int))] 47 (0, 0))) f rfl rfl rfl ⟨_, _, bs_exec f rfl rfl (bs_reg2 _ _ _ _ _), by rw [hgm], (Below.refl _ _).alloc (Nat.le_refl _) _, by rw [hgm]; show (Array.push _ _)[_]? = _; (rw [Array.getElem?_push, if_pos rfl] <;> rfl)⟩ ?_
 clear f A
 rintro _ W21 ⟨rfl, hb22, rgm⟩ A f
 have lt_gm := row_lt rgm
 replace B0 := Below.next B0 hb22; replace rb1 := row_next rb1 hb22; replace rb10 := row_next rb10 hb22
 revert A; refine vlf (h:=vlf (h:=?_)); intro A f
 refine vls f rb10 ?_
 clear rb10; intro W23 hb24 rb10; dsimp only [setL, over, Value.cells] at rb10; replace B0 := Below.thenBut B0 hb24 (by omega); replace rb1 := But.row hb24 rb1 (by omega); replace rgm := But.row hb24 rgm (by omega)
 revert A; refine vW (vS (vR (vlm (h:=vlm (h:=vlc (c_same (picked_fn c 30 30 rfl wc (by omega) (by omega) _)) (h:=?_)))))); intro W26 hb25; replace B0 := Below.next B0 hb25; replace rb1 := row_next rb1 hb25; replace rb10 := row_next rb10 hb25; replace rgm := row_next rgm hb25
 refine vlA (h:=vlm (h:=vlc (c_same (picked_fn a 7 7 rfl wa (by omega) (by omega) _)) (h:=?_))); intro W28 hb27; replace B0 := Below.next B0 hb27; replace rb1 := row_next rb1 hb27; replace rb10 := row_next rb10 hb27; replace rgm := row_next rgm hb27
 refine vlA (h:=vld (y_build #[.int .i64 ((pickN a 20 : Int) + pickN c 30), .int .i64 (1 + (pickN a 7 : Int))] rfl rfl (by kernel_rfl)) (h:=vlm (h:=vlc (c_same (picked_fn b 9 9 rfl wb (by omega) (by omega) _)) (h:=?_)))); intro W30 hb29; replace B0 := Below.next B0 hb29; replace rb1 := row_next rb1 hb29; replace rb10 := row_next rb10 hb29; replace rgm := row_next rgm hb29
 refine vlA (h:=vlm (h:=vlc (c_same (picked_fn c 5 5 rfl wc (by omega) (by omega) _)) (h:=?_))); intro W32 hb31; replace B0 := Below.next B0 hb31; replace rb1 := row_next rb1 hb31; replace rb10 := row_next rb10 hb31; replace rgm := row_next rgm hb31
 refine vlA (h:=vld (y_build #[.int .i64 (150 + (pickN b 9 : Int)), .int .i64 (1 + (pickN c 5 : Int))] rfl rfl (by kernel_rfl)) (h:=?_))
 obtain ⟨gr, hgr⟩ : ∃ g, g = W32.heap.size := ⟨_, rfl⟩
 have o_b1_gr : b1 < gr := by have := row_lt rb1; omega
 have o_b10_gr : b10 < gr := by have := row_lt rb10; omega
 have o_gm_gr : gm < gr := by have := row_lt rgm; omega
 intro A f
 refine l_opR (R := fun v W => v = .slice (some ⟨gr, 0, none⟩) 2 2 ∧ Below W32.heap.size W32 W ∧ W.heap[gr]? = some (.cells #[.int .i64 ((pickN a 20 : Int) + pickN c 30), .int .i64 (1 + (pickN a 7 : Int)), .int .i64 (150 + (pickN b 9 : Int)), .int .i64 (1 + (pickN c 5 : Int))] 47 (0, 0))) f rfl rfl rfl ⟨_, _, bs_exec f rfl rfl (bs_reg2 _ _ _ _ _), by rw [hgr], (Below.refl _ _).alloc (Nat.le_refl _) _, by rw [hgr]; show (Array.push _ _)[_]? = _; (rw [Array.getElem?_push, if_pos rfl] <;> rfl)⟩ ?_
 clear f A
 rintro _ W33 ⟨rfl, hb34, rgr⟩ A f
 have lt_gr := row_lt rgr
 replace B0 := Below.next B0 hb34; replace rb1 := row_next rb1 hb34; replace rb10 := row_next rb10 hb34; replace rgm := row_next rgm hb34
 revert A; refine vlf (h:=vlf (h:=?_)); intro A f
 refine vls f rb10 ?_
 clear rb10; intro W35 hb36 rb10; dsimp only [setL, over, Value.cells] at rb10; replace B0 := Below.thenBut B0 hb36 (by omega); replace rb1 := But.row hb36 rb1 (by omega); replace rgm := But.row hb36 rgm (by omega); replace rgr := But.row hb36 rgr (by omega)
 revert A; refine vW (vS (vR (vl5 (rowq rb10) (h:=?_)))); intro A f
 refine vls f rb1 ?_
 clear rb1; intro W37 hb38 rb1; dsimp only [setL, over, Value.cells] at rb1; replace B0 := Below.thenBut B0 hb38 (by omega); replace rb10 := But.row hb38 rb10 (by omega); replace rgm := But.row hb38 rgm (by omega); replace rgr := But.row hb38 rgr (by omega)
 revert A; refine vW (vE ?_); intro A f
 refine x_retc f rfl rfl (ag rfl) rb1 rfl ?_
 refine ⟨gm, gr, rfl, regs_two rgm rfl, regs_two rgr rfl, B0⟩
theorem new_may {H : Hp} {l : List (Int × Int)} {split least cpus : Int} (h : NewH H l split least cpus) (hg : newGood least cpus) :
    HMay H ∧ H.live = [] ∧ H.lists = [] ∧ H.cpus = cpus ∧ (H.zones.getD 0 ⟨0, 0, [], []⟩).t = split ∧ ∀ q, occ H q = (if inZ l 0 split q = true then 1 else 0) + (if inZ l split 256 q = true then 1 else 0) := by
 obtain ⟨Z0, Z1, h0, h1, rfl⟩ := h
 have ho : ∀ q, occ ⟨[Z0, Z1], [least, least], cpus, [], []⟩ q = (if inZ l 0 split q = true then 1 else 0) + (if inZ l split 256 q = true then 1 else 0) := fun q => by
  have e : zcnt ⟨[Z0, Z1], [least, least], cpus, [], []⟩ q = Kit.cnt Z0.free q + Kit.cnt Z1.free q := zcnt_two rfl q
  have e2 : lcnt [] q = 0 := rfl
  have e3 : Kit.cnt [] q = 0 := rfl
  show zcnt ⟨[Z0, Z1], [least, least], cpus, [], []⟩ q + (lcnt [] q + Kit.cnt [] q) = _
  rw [e, e2, e3, h0.cnt, h1.cnt]
  rfl
 refine ⟨hmay_of ⟨rfl, h0.may, h1.may, h0.f, by show Z1.f = Z0.t; rw [h1.f, h0.t], h1.t⟩ ⟨rfl, hg.1, hg.1⟩ hg.2 ⟨fun i hi => absurd hi (Nat.not_lt_zero i), fun i _ hi => absurd hi (Nat.not_lt_zero i)⟩ ⟨fun i hi => absurd hi (Nat.not_lt_zero i), fun i _ hi => absurd hi (Nat.not_lt_zero i)⟩ (fun q => ?_), rfl, rfl, rfl, h0.t, ho⟩
 rw [ho q]
 unfold inZ
 by_cases a : q < split
 ·rw [if_neg (c := (inL l q && decide (split ≤ q ∧ q < 256)) = true) (by simp; omega)]
  split <;> omega
 rw [if_neg (c := (inL l q && decide (0 ≤ q ∧ q < split)) = true) (by simp; omega)]
 split <;> omega
theorem drawnAll_may {h : Int → Bool} (hl : (drawnAll h).length ≤ 40) : MayP (drawnAll h) := by
 exact may_of_canon (drawnAll_canon _) hl
theorem inL_two (r s : Int × Int) (p : Int) : inL [r, s] p = (decide (r.1 ≤ p ∧ p ≤ r.1 + r.2 - 1) || decide (s.1 ≤ p ∧ p ≤ s.1 + s.2 - 1)) := by
 simp [inL]
theorem su_few (a b c : Int) : (drawnAll (freeH (suM a b c) (suR a b c))).length ≤ 4 := by
 have h0 : starts (inL (suM a b c)) 256 = 2 := by rw [← drawnAll_starts, may_drawn (suM_may a b c)]; rfl
 have h1 := starts_change (inL (suM a b c)) (fun p => inL (suM a b c) p && !decide (((pickN a 20 + pickN c 30 : Nat) : Int) ≤ p ∧ p < ((pickN a 20 + pickN c 30 : Nat) : Int) + (1 + pickN a 7 : Nat))) false (pickN a 20 + pickN c 30) (1 + pickN a 7) (by omega)
  (fun p hp => by rw [decide_eq_false (by omega)]; simp) (fun p h1 h2 => by rw [decide_eq_true ⟨h1, h2⟩]; simp) 256
 have h2 := starts_change (fun p => inL (suM a b c) p && !decide (((pickN a 20 + pickN c 30 : Nat) : Int) ≤ p ∧ p < ((pickN a 20 + pickN c 30 : Nat) : Int) + (1 + pickN a 7 : Nat))) (freeH (suM a b c) (suR a b c)) false (150 + pickN b 9) (1 + pickN c 5) (by omega)
  (fun p hp => by
   unfold freeH
   rw [show inL (suR a b c) p = decide (((pickN a 20 + pickN c 30 : Nat) : Int) ≤ p ∧ p < ((pickN a 20 + pickN c 30 : Nat) : Int) + (1 + pickN a 7 : Nat)) by
    unfold suR
    rw [inL_two]
    dsimp only
    rw [decide_eq_false (p := (150 + (pickN b 9 : Int) ≤ p ∧ _)) (by omega), Bool.or_false]
    exact decide_eq_decide.2 (by omega)])
  (fun p h1 h2 => by
   unfold freeH
   rw [show inL (suR a b c) p = true by
    unfold suR
    rw [inL_two]
    dsimp only
    rw [decide_eq_true (p := (150 + (pickN b 9 : Int) ≤ p ∧ _)) (by omega), Bool.or_true]]
   simp) 256
 rw [drawnAll_starts]
 omega
def FreshH (B : Nat) (y : Hx) : Prop := ∀ b, b < B → Away b y ∧ ∀ a, y.zo = some a → a.block ≠ b
theorem zPages_ok (w : World) (fo : Option Addr) (fn fc : Nat) (to_ : Option Addr) (tn tc : Nat) (z : Zn) (h : ZnAt w fo fn to_ tn z) (hM : ZMay z) :
    Calls Tryz.prog 26 #[.agg #[.int .i64 z.f, .int .i64 z.t, .slice fo fn fc, .slice to_ tn tc]] w fun e w' => e = .returned (.tuple #[.int .i64 (freeN z.free), .int .i64 0]) ∧ Below w.heap.size w w' := by
 have I0 := ckInv_first w fo fn fc to_ tn tc z h
 have c0 := I0.box.c0
 have c1 := I0.box.c1
 have c2 := I0.box.c2
 have c3 := I0.box.c3
 have hfl := h.free.len
 have hfr := h.free.reach
 clear h
 obtain ⟨n1, n2, n3, n4, n5⟩ := hM.new
 have hF := hM.free
 go_enter Tryz.func26, Tryz.ntmps26
 go_wp2_with fail
 go_at_call 49
 refine (zCheck_ok _ fo fn fc to_ tn tc z I0.zn hM).mono ?_
 rintro e w1 ⟨rfl, hb1⟩
 have I1 := I0.step hb1
 clear I0 c0 c1 c2 c3 hb1 hM
 have c2 := I1.box.c2
 go_wp2
 clear c2
 go_loopw [5, 16] (fun nv iv wr => ∃ k : Nat, k ≤ fn ∧ iv = .int .i64 k ∧ nv = .int .i64 (freeN (z.free.take k)) ∧ CkInv w fo fn fc to_ tn tc z wr) (fun _ iv _ => fn - (intOf iv).toNat)
 case atStart => exact ⟨0, Nat.zero_le _, rfl, rfl, I1⟩
 case round =>
  obtain ⟨k, hk, rfl, rfl, I⟩ := hrel
  clear I1
  by_cases hlt : k < fn
  ·obtain ⟨bb, bf, x, y, u, rfl, x0, x1, x2, hX⟩ := I.zn.free.at_.at k (by omega)
   have htk := take_getD z.free k (by omega) hX.out
   have hB := (freeOk_at hF (by omega) hX.out).1
   have hle : FreeOk z.f z.t z.f none (z.free.take k) := by rw [← List.take_append_drop k z.free] at hF; exact freeOk_left hF
   have hbd := freeN_le hle n5 n2
   have hbx := below_box wr (.cells #[.int .i64 x, .int .i64 y, .int .i64 u] 40)
   have I3 := I.step hbx
   have HS : Hid (freeN (z.free.take (k + 1)) = freeN (z.free.take k) + pw y) := by show _ = _; rw [htk, freeN_snoc]
   obtain ⟨S, hS⟩ : ∃ S, freeN (z.free.take k) = S := ⟨_, rfl⟩
   rw [hS] at hbd HS ⊢
   clear hS htk hle I hbx hF hX
   have hy := hB.1
   clear hB
   rcases ord_cases hy with ⟨rfl, e⟩ | ⟨rfl, e⟩ | ⟨rfl, e⟩ | ⟨rfl, e⟩ | ⟨rfl, e⟩
   all_goals
    clear hy
    have HS2 := HS.out
    rw [e] at HS2
    have HS3 : Hid _ := HS2
    clear HS2 e HS
    go_wp2
    go_roundw
    case rel => exact ⟨k + 1, by omega, by go_num, by rw [HS3.out], I3⟩
    case measure => simp [intOf]; omega
  have HE : Hid (z.free.take k = z.free) := List.take_of_length_le (by omega)
  have hbb := I.b
  rw [HE.out]
  go_wp2
  go_ret2
  exact ⟨rfl, hbb⟩
theorem pTake_c (w : World) (B gz hbk : Nat) (y : Hx) (z : Nat) (cpu o fl : Int) (rh : w.heap[hbk]? = some (.cells #[.slice y.zo y.zn y.zc, .slice y.mo y.mn y.mc, .int .i64 y.cpus, .slice y.lo y.ln y.lc, .slice y.vo y.vn y.vc] 34 (0, 0))) (HY : HZ w B gz y) (hne : hbk ≠ gz) (hT : TabAt w) (hMn : MnOk y.hp) (hZs : ZsOk y.hp) (hf : flag16 fl) (hz : z < 2) (ho : ordOk o) :
    Calls Tryz.prog 64 #[.pointer (some ⟨hbk, 0, none⟩), .int .i64 (z : Nat), .agg #[.int .i64 cpu, .int .i64 o, .int .i64 fl]] w fun e w' => e = .returned (.tuple #[.int .i64 (atO (takeGH y.hp z o fl)), .bool (takeGH y.hp z o fl).isSome]) ∧ (takeGH y.hp z o fl = none → Below w.heap.size w w') ∧ ∃ zs, (y.withZ zs).hp = hpO y.hp (takeGH y.hp z o fl) ∧ HZ w' B gz (y.withZ zs) ∧ But gz w w' ∧ (∀ b, b < w.heap.size → AwayF b y → AwayF b (y.withZ zs)) := by
 have hin : z < y.zn := by have e : y.hp.zones.length = y.zs.length := (by show (y.zs.map _).length = _; rw [List.length_map]); have := hZs.n; have := HY.at_.zones.len; omega
 have hzn : y.zn = 2 := by have e : y.hp.zones.length = y.zs.length := (by show (y.zs.map _).length = _; rw [List.length_map]); have := hZs.n; have := HY.at_.zones.len; omega
 have hzr := HY.at_.zones.reach
 have hgz : gz < w.heap.size := HY.lt (by omega)
 have hrl := row_lt rh
 have ez := HY.ez
 obtain ⟨gz, oz, zz, foz, fnz, fcz, toz, tnz, tcz, haz, c0z, c1z, c2z, c3z, hatz, hXz⟩ := HY.at_.zones.at (z) (by omega)
 replace c0z := St.of c0z; replace c1z := St.of c1z; replace c2z := St.of c2z; replace c3z := St.of c3z
 have hze : y.hp.zones.getD z ⟨0, 0, [], []⟩ = zz := by rw [hp_zone, hXz.out]
 rw [ez] at haz; simp only [Option.some.injEq, Addr.mk.injEq, and_true] at haz; obtain ⟨rfl, rfl⟩ := haz
 have hmz : ZMay zz := by rw [← hze]; rcases (show z = 0 ∨ z = 1 by omega) with rfl | rfl; (exact hZs.m0); exact hZs.m1
 have hnz := hmz.new
 unfold newOk at hnz
 have hfr := freeN_le hmz.free hnz.2.2.2.2 hnz.2.1
 have hpw := pw_pos o
 have hpl := pw_le ho
 have B0 := Below.refl w.heap.size w
 refine sx_enter (args := [_, _, _]) 65 Tryz.func64 rfl rfl rfl ?_
 refine vS (vR ?_); intro A f
 refine l_box f rfl rfl rfl rfl rfl ?_; clear f A; intro b1 W2 eb1 hb3 rb1 A f; dsimp only [Value.cells] at rb1
 have o_hbk_b1 : hbk < b1 := by have := row_lt rh; omega
 have z_B0_b1 := B0.size; rw [eb1] at z_B0_b1
 replace B0 := Below.next B0 hb3; replace HY := HY.below hb3; replace rh := row_next rh hb3
 revert A; refine vla (h:=vla (h:=vW (vS (vR (vlm (h:=vli (h:=vlf (h:=vl1 (rowq rh) (h:=vlm (h:=vlx (h:=vld (y_loadN (vs := [_, _, _, _]) rfl rfl (ag rfl) rfl ⟨(by first | assumption | exact St.q c0z B0 | exact St.q c1z B0 | exact St.q c2z B0 | exact St.q c3z B0), (by first | assumption | exact St.q c0z B0 | exact St.q c1z B0 | exact St.q c2z B0 | exact St.q c3z B0), (by first | assumption | exact St.q c0z B0 | exact St.q c1z B0 | exact St.q c2z B0 | exact St.q c3z B0), (by first | assumption | exact St.q c0z B0 | exact St.q c1z B0 | exact St.q c2z B0 | exact St.q c3z B0), trivial⟩) (h:=vlc (zPages_ok _ _ _ _ _ _ _ zz (hatz.below B0) hmz) (h:=?_))))))))))))); intro W5 hb4; replace B0 := Below.next B0 hb4; replace HY := HY.below hb4; replace rh := row_next rh hb4; replace rb1 := row_next rb1 hb4
 refine vlm (h:=vle (h:=vle (h:=vla (h:=vla (h:=vW (vS (vS ?_))))))); intro A f
 refine sx_quiet (by kernel_rfl) (by kernel_rfl) ?_
 revert A; refine vqm (h:=vqb (y_neq rfl rfl rfl) (h:=?_) (g:=?_))
 ·intro c6; exfalso; omega
 intro c6
 refine vqm (h:=vqm (h:=vqf (h:=vq1 (rowq rb1) (h:=vqd (y_shl1 rfl rfl rfl ho) (h:=vqd (y_sub rfl rfl rfl rfl (by omega)) (h:=vq3 (rowq rb1) (h:=vqm (h:=vqi (h:=vq5 (rowq rh) (h:=vqm (h:=vqc (fun wx hx => (rqHeld_c wx y cpu o fl z (HY.at_.below hx) hMn hZs hf hz).mono (fun e w1 h1 => ⟨h1.1, Below.next hx h1.2⟩)) (h:=vqb (y_lss rfl rfl rfl) (h:=?_) (g:=?_)))))))))))))
 ·intro c7
  refine vqp (h:=vQ ?_); intro W9 hb8; replace B0 := Below.next B0 hb8; replace HY := HY.below hb8; replace rh := row_next rh hb8; replace rb1 := row_next rb1 hb8
  refine vT (vC (h:=vS (vR (vla (h:=vla (h:=vW (vE (vF ?_)))))))); intro A f
  refine x_ret2 f rfl rfl rfl ?_
  have hr : takeGH y.hp z o fl = none := by unfold takeGH; rw [hze, if_pos c7]
  rw [hr]
  exact ⟨rfl, fun _ => B0, y.zs, rfl, HY, But.of_below B0, fun _ _ h => h⟩
 intro c7
 refine vqp (h:=vQ ?_); intro W11 hb10; replace B0 := Below.next B0 hb10; replace HY := HY.below hb10; replace rh := row_next rh hb10; replace rb1 := row_next rb1 hb10
 refine vT (vD (h:=vK (vT (vS ?_)))); intro A f
 refine x_cut (fun A W => ∃ F T ko kn kc lo ln lc a c b, Fr A 65 [(0, .pointer (some ⟨hbk, 0, none⟩)), (1, .int .i64 (z : Nat)), (5, .pointer (some ⟨b1, 0, none⟩)), (10, .pointer (some ⟨b, 0, none⟩)), (11, .int .i64 a), (9, .int .i64 c)] ∧ Below W11.heap.size W11 W ∧ W.heap[b]? = some (.cells #[.int .i64 F, .int .i64 T, .slice ko kn kc, .slice lo ln lc] 54 (0, 0)) ∧ W11.heap.size ≤ b ∧ TkR W11.heap.size W zz o (typeF fl) F T ko kn lo ln a c) ?_ ?_
 ·skip
  refine a_start (ClB W11) (by kernel_rfl) rfl ?_
  generalize hWd : ({ W11 with drawn := W11.drawn + 1 } : World) = Wd
  have hS := drawn_b hWd
  clear hWd
  refine a_do 0 f rfl (by kernel_rfl) blind_cut hS rfl rfl rfl (y_move rfl rfl) ?_; clear f A; intro A f
  refine a_do 1 f rfl (by kernel_rfl) blind_cut hS rfl rfl rfl (y_nil rfl rfl) ?_; clear f A; intro A f
  refine a_do 2 f rfl (by kernel_rfl) blind_cut hS rfl rfl rfl (y_field rfl rfl (fo rfl)) ?_; clear f A; intro A f
  refine a_do 3 f rfl (by kernel_rfl) blind_cut hS rfl rfl rfl (y_load1 rfl rfl (ag rfl) (rowl (rowq rh) rfl)) ?_; clear f A; intro A f
  refine a_do 4 f rfl (by kernel_rfl) blind_cut hS rfl rfl rfl (y_move rfl rfl) ?_; clear f A; intro A f
  refine a_do 5 f rfl (by kernel_rfl) blind_cut hS rfl rfl rfl (y_index rfl rfl (by first | rfl | assumption) rfl (es rfl) (by omega)) ?_; clear f A; intro A f
  refine a_do 6 f rfl (by kernel_rfl) blind_cut hS rfl rfl rfl (y_loadN (vs := [_, _, _, _]) rfl rfl (ag rfl) rfl ⟨(by first | assumption | exact St.q c0z B0 | exact St.q c1z B0 | exact St.q c2z B0 | exact St.q c3z B0), (by first | assumption | exact St.q c0z B0 | exact St.q c1z B0 | exact St.q c2z B0 | exact St.q c3z B0), (by first | assumption | exact St.q c0z B0 | exact St.q c1z B0 | exact St.q c2z B0 | exact St.q c3z B0), (by first | assumption | exact St.q c0z B0 | exact St.q c1z B0 | exact St.q c2z B0 | exact St.q c3z B0), trivial⟩) ?_; clear f A; intro A f
  refine a_do 7 f rfl (by kernel_rfl) blind_cut hS rfl rfl rfl (y_field rfl rfl (fo rfl)) ?_; clear f A; intro A f
  refine a_do 8 f rfl (by kernel_rfl) blind_cut hS rfl rfl rfl (y_load1 rfl rfl (ag rfl) (rowl (rowq rb1) rfl)) ?_; clear f A; intro A f
  refine a_do 9 f rfl (by kernel_rfl) blind_cut hS rfl rfl rfl (y_loadN (vs := [_, _, _]) rfl rfl (ag rfl) rfl (rowls (rowq rb1) _ _ ⟨rfl, rfl, rfl, trivial⟩)) ?_; clear f A; intro A f
  refine a_two 10 16 rfl rfl (by kernel_rfl) rfl rfl ?_ ?_
  ·skip
   refine g_call f (IsCall.mk' (cap := []) rfl rfl rfl) (pl rfl) (rqType_c _ cpu o fl hf) ?_
   rintro _ We ⟨rfl, hbe⟩
   refine ⟨_, rfl, Below.next hS hbe, a_put f rfl rfl ?_⟩; clear f A; intro A f
   replace hS := Below.next hS hbe
   refine a_two 11 16 rfl rfl (by kernel_rfl) rfl rfl ?_ ?_
   ·skip
    have hsz := hS.size
    refine g_call f (IsCall.mk' (cap := []) rfl rfl rfl) (pl rfl) (zTake_both _ foz fnz fcz toz tnz tcz zz o (typeF fl) (hatz.below (Below.next B0 hS)) hmz (hT.below (Below.next B0 hS)) ho (typeF_ok fl)) ?_
    rintro _ Wf ⟨F, T, ko, kn, kc, lo, ln, lc, a, c, rfl, hk, hbf⟩
    refine ⟨_, rfl, Below.next hS hbf, a_put f rfl rfl ?_⟩; clear f A; intro A f
    replace hS := Below.next hS hbf
    refine a_do 12 f rfl (by kernel_rfl) blind_cut hS rfl rfl rfl (y_move rfl rfl) ?_; clear f A; intro A f
    refine a_do 13 f rfl (by kernel_rfl) blind_cut hS rfl rfl rfl (y_ext rfl rfl rfl) ?_; clear f A; intro A f
    refine a_do 14 f rfl (by kernel_rfl) blind_cut hS rfl rfl rfl (y_ext rfl rfl rfl) ?_; clear f A; intro A f
    refine a_do 15 f rfl (by kernel_rfl) blind_cut hS rfl rfl rfl (y_ext rfl rfl rfl) ?_; clear f A; intro A f
    refine a_one 16 rfl (by kernel_rfl) rfl ?_
    have hsa := hS.size
    refine g_alloc (z := .agg #[.int .i64 0, .int .i64 0, .slice none 0 0, .slice none 0 0]) rfl (by kernel_rfl) ?_
    intro bA Wg ebA hbg rbA
    dsimp only [Value.cells] at rbA
    refine ⟨Below.next hS hbg, a_put f rfl rfl ?_⟩; clear f A; intro A f
    have hk1 := hk
    have hbA := hbg
    replace hS := Below.next hS hbg
    replace hk := hk.below hbg
    refine a_one 17 rfl (by kernel_rfl) rfl ?_
    refine g_store f rfl rfl rfl rfl rbA (sz rfl) rfl (Nat.le_of_ble_eq_true rfl) rfl ?_
    clear rbA; intro Wh hbh rbA; dsimp only [setL, over, Value.cells] at rbA
    refine ⟨Below.thenBut hS hbh (by omega), ?_⟩
    replace hS := Below.thenBut hS hbh (by omega)
    replace hk := hk1.below (Below.thenBut hbA hbh (by omega))
    refine a_do 18 f rfl (by kernel_rfl) blind_cut hS rfl rfl rfl (y_assign rfl rfl) ?_; clear f A; intro A f
    refine a_do 19 f rfl (by kernel_rfl) blind_cut hS rfl rfl rfl (y_assign rfl rfl) ?_; clear f A; intro A f
    refine a_end (by kernel_rfl) ?_
    exact ⟨rfl, F, T, ko, kn, kc, lo, ln, lc, a, c, bA, f.sub ⟨rfl, rfl, rfl, rfl, rfl, rfl, trivial⟩, hS, rbA, by omega, hk.weaken hsz⟩
   skip
   have hsa := hS.size
   refine g_alloc (z := .agg #[.int .i64 0, .int .i64 0, .slice none 0 0, .slice none 0 0]) rfl (by kernel_rfl) ?_
   intro bA Wg ebA hbg rbA
   dsimp only [Value.cells] at rbA
   refine ⟨Below.next hS hbg, a_put f rfl rfl ?_⟩; clear f A; intro A f
   replace hS := Below.next hS hbg
   refine a_one 11 rfl (by kernel_rfl) rfl ?_
   have hlb := row_lt rbA
   have hsz := hS.size
   refine g_call f (IsCall.mk' (cap := []) rfl rfl rfl) (pl rfl) (zTake_both _ foz fnz fcz toz tnz tcz zz o (typeF fl) (hatz.below (Below.next B0 hS)) hmz (hT.below (Below.next B0 hS)) ho (typeF_ok fl)) ?_
   rintro _ Wf ⟨F, T, ko, kn, kc, lo, ln, lc, a, c, rfl, hk, hbf⟩
   refine ⟨_, rfl, Below.next hS hbf, a_put f rfl rfl ?_⟩; clear f A; intro A f
   replace hS := Below.next hS hbf
   replace rbA := row_next rbA hbf
   refine a_do 12 f rfl (by kernel_rfl) blind_cut hS rfl rfl rfl (y_move rfl rfl) ?_; clear f A; intro A f
   refine a_do 13 f rfl (by kernel_rfl) blind_cut hS rfl rfl rfl (y_ext rfl rfl rfl) ?_; clear f A; intro A f
   refine a_do 14 f rfl (by kernel_rfl) blind_cut hS rfl rfl rfl (y_ext rfl rfl rfl) ?_; clear f A; intro A f
   refine a_do 15 f rfl (by kernel_rfl) blind_cut hS rfl rfl rfl (y_ext rfl rfl rfl) ?_; clear f A; intro A f
   refine a_one 17 rfl (by kernel_rfl) rfl ?_
   refine g_store f rfl rfl rfl rfl rbA (sz rfl) rfl (Nat.le_of_ble_eq_true rfl) rfl ?_
   clear rbA; intro Wh hbh rbA; dsimp only [setL, over, Value.cells] at rbA
   refine ⟨Below.thenBut hS hbh (by omega), ?_⟩
   replace hS := Below.thenBut hS hbh (by omega)
   replace hk := hk.but hbh hlb
   refine a_do 18 f rfl (by kernel_rfl) blind_cut hS rfl rfl rfl (y_assign rfl rfl) ?_; clear f A; intro A f
   refine a_do 19 f rfl (by kernel_rfl) blind_cut hS rfl rfl rfl (y_assign rfl rfl) ?_; clear f A; intro A f
   refine a_end (by kernel_rfl) ?_
   exact ⟨rfl, F, T, ko, kn, kc, lo, ln, lc, a, c, bA, f.sub ⟨rfl, rfl, rfl, rfl, rfl, rfl, trivial⟩, hS, rbA, by omega, hk.weaken hsz⟩
  skip
  have hsa := hS.size
  refine g_alloc (z := .agg #[.int .i64 0, .int .i64 0, .slice none 0 0, .slice none 0 0]) rfl (by kernel_rfl) ?_
  intro bA Wg ebA hbg rbA
  dsimp only [Value.cells] at rbA
  refine ⟨Below.next hS hbg, a_put f rfl rfl ?_⟩; clear f A; intro A f
  replace hS := Below.next hS hbg
  refine a_one 10 rfl (by kernel_rfl) rfl ?_
  refine g_call f (IsCall.mk' (cap := []) rfl rfl rfl) (pl rfl) (rqType_c _ cpu o fl hf) ?_
  rintro _ We ⟨rfl, hbe⟩
  refine ⟨_, rfl, Below.next hS hbe, a_put f rfl rfl ?_⟩; clear f A; intro A f
  replace hS := Below.next hS hbe
  replace rbA := row_next rbA hbe
  refine a_one 11 rfl (by kernel_rfl) rfl ?_
  have hlb := row_lt rbA
  have hsz := hS.size
  refine g_call f (IsCall.mk' (cap := []) rfl rfl rfl) (pl rfl) (zTake_both _ foz fnz fcz toz tnz tcz zz o (typeF fl) (hatz.below (Below.next B0 hS)) hmz (hT.below (Below.next B0 hS)) ho (typeF_ok fl)) ?_
  rintro _ Wf ⟨F, T, ko, kn, kc, lo, ln, lc, a, c, rfl, hk, hbf⟩
  refine ⟨_, rfl, Below.next hS hbf, a_put f rfl rfl ?_⟩; clear f A; intro A f
  replace hS := Below.next hS hbf
  replace rbA := row_next rbA hbf
  refine a_do 12 f rfl (by kernel_rfl) blind_cut hS rfl rfl rfl (y_move rfl rfl) ?_; clear f A; intro A f
  refine a_do 13 f rfl (by kernel_rfl) blind_cut hS rfl rfl rfl (y_ext rfl rfl rfl) ?_; clear f A; intro A f
  refine a_do 14 f rfl (by kernel_rfl) blind_cut hS rfl rfl rfl (y_ext rfl rfl rfl) ?_; clear f A; intro A f
  refine a_do 15 f rfl (by kernel_rfl) blind_cut hS rfl rfl rfl (y_ext rfl rfl rfl) ?_; clear f A; intro A f
  refine a_one 17 rfl (by kernel_rfl) rfl ?_
  refine g_store f rfl rfl rfl rfl rbA (sz rfl) rfl (Nat.le_of_ble_eq_true rfl) rfl ?_
  clear rbA; intro Wh hbh rbA; dsimp only [setL, over, Value.cells] at rbA
  refine ⟨Below.thenBut hS hbh (by omega), ?_⟩
  replace hS := Below.thenBut hS hbh (by omega)
  replace hk := hk.but hbh hlb
  refine a_do 18 f rfl (by kernel_rfl) blind_cut hS rfl rfl rfl (y_assign rfl rfl) ?_; clear f A; intro A f
  refine a_do 19 f rfl (by kernel_rfl) blind_cut hS rfl rfl rfl (y_assign rfl rfl) ?_; clear f A; intro A f
  refine a_end (by kernel_rfl) ?_
  exact ⟨rfl, F, T, ko, kn, kc, lo, ln, lc, a, c, bA, f.sub ⟨rfl, rfl, rfl, rfl, rfl, rfl, trivial⟩, hS, rbA, by omega, hk.weaken hsz⟩
 skip
 clear f A; rintro A W12 ⟨F, T, ko, kn, kc, lo, ln, lc, a, c, bA, f, hb4, rbA, hbA, hk⟩
 have o_hbk_bA : hbk < bA := by have := row_lt rh; omega
 have o_b1_bA : b1 < bA := by have := row_lt rb1; omega
 have hsA := B0.size
 replace B0 := Below.next B0 hb4; replace HY := HY.below hb4; replace rh := row_next rh hb4; replace rb1 := row_next rb1 hb4
 revert A; refine vT (vS (vS (vR (vlm (h:=vlb (y_neq rfl rfl rfl) (h:=?_) (g:=?_))))))
 ·intro c13
  refine vW (vC (h:=vS (vR (vla (h:=vla (h:=vW (vE (vF ?_)))))))); intro A f
  refine x_ret2 f rfl rfl rfl ?_
  have hC : chooseI zz.free o (typeF fl) < 0 := by rcases hk with h | h; (exact h.1); exact absurd h.1 c13
  have hr : takeGH y.hp z o fl = none := by unfold takeGH; rw [hze, if_neg c7, if_pos hC]
  rw [hr]
  exact ⟨rfl, fun _ => B0, y.zs, rfl, HY, But.of_below B0, fun _ _ h => h⟩
 intro c13
 refine vW (vD (h:=vK (vT (vS ?_)))); intro A f
 rcases hk with ⟨_, hc6⟩ | ⟨_, i, hCi, rfl, rfl, rfl, hz2, hf2, ht2⟩
 ·exfalso; omega
 obtain ⟨Y, hY⟩ : ∃ Y, takeZ zz o (typeF fl) i = Y := ⟨_, rfl⟩
 rw [hY] at hz2 rbA
 have q_hbk := fun wx (h : But gz W12 wx) => But.row h rh (by omega)
 have q_b1 := fun wx (h : But gz W12 wx) => But.row h rb1 (by omega)
 have q_bA := fun wx (h : But gz W12 wx) => But.row h rbA (by omega)
 have hSB : Below w.heap.size w W12 := B0
 refine sx_held (fun wx => But gz W12 wx) [7] (by kernel_rfl) (by kernel_rfl) (blind_then (blind_body)) (But.of_below ((Below.refl _ _).drew)) ?_
 generalize hWd : ({ W12 with drawn := W12.drawn + 1 } : World) = W14
 have hS := but_start gz hWd
 have hdr := drawn_b hWd
 clear hWd
 replace B0 := Below.next B0 hdr; replace HY := HY.below hdr; replace hz2 := hz2.below hdr; replace rh := row_next rh hdr; replace rb1 := row_next rb1 hdr; replace rbA := row_next rbA hdr
 revert A; refine vhm (h:=vhi (h:=vhf (h:=vh1 q_hbk (h:=vhm (h:=vh4 q_bA (h:=vhx (h:=?_)))))))
 have oz := HY.oz
 intro A f
 rw [HY.ez] at oz
 refine h_storeR f rfl rfl rfl rfl rfl rfl (own_set4 oz hin (Zc.q ⟨Y, ko, kn, kc, lo, ln, lc⟩) (Zc.one _) (sz rfl)) (fun _ h => hS.trans h.1) ?_
 rintro W15 ⟨hb16, ow⟩
 have HY2 := HY.set (i := z) (z := ⟨Y, ko, kn, kc, lo, ln, lc⟩) hz2 (fun a ha e => by have := hf2 a ha; omega) (fun a ha e => by have := ht2 a ha; omega) hb16 (by rw [HY.ez]; exact ow)
 have hSf := hS.trans hb16
 revert A; refine vM (vT (vS (vR (vlm (h:=vla (h:=vla (h:=vW (vE ?_)))))))); intro A f
 refine x_ret2 f rfl rfl rfl ?_
 have hr : takeGH y.hp z o fl = some ({ y.hp with zones := y.hp.zones.set z Y }, (zz.free.getD i .zero).a) := by unfold takeGH; rw [hze, if_neg c7, if_neg (by omega), hCi, Int.toNat_natCast, hY]
 rw [hr]
 refine ⟨rfl, (fun h => nomatch h), y.zs.set z ⟨Y, ko, kn, kc, lo, ln, lc⟩, ?_, HY2, ((But.of_below hSB).trans hSf), fun (b : Nat) (hb : b < w.heap.size) (ha : AwayF b y) => AwayF.setZ (b := b) (i := z) (z := ⟨Y, ko, kn, kc, lo, ln, lc⟩) ha (fun a h => by have := hf2 a h; omega) (fun a h => by have := ht2 a h; omega)⟩
 show Hp.mk ((y.zs.set z _).map (·.z)) _ _ _ _ = _
 rw [List.map_set]
 rfl
theorem pSingle_t (w : World) (B gz gl hbk : Nat) (y : Hx) (z i : Nat) (cpu fl : Int) (rhbk : w.heap[hbk]? = some (.cells #[.slice y.zo y.zn y.zc, .slice y.mo y.mn y.mc, .int .i64 y.cpus, .slice y.lo y.ln y.lc, .slice y.vo y.vn y.vc] 34 (0, 0))) (HY : HZ w B gz y) (ol : w.ownsRow B 69 4 (.slice y.lo y.ln y.lc) y.ln (c4 (y.ls.map Lc.q))) (el : ∀ a, y.lo = some a → a.block = gl) (al : AwayL gl y) (ah : AwayL hbk y)
    (_hhz : hbk ≠ gz) (hhl : hbk ≠ gl) (_hzl : gz ≠ gl) (hgw : gl < w.heap.size) (hB : B ≤ w.heap.size) (_hT : TabAt w) (_hMn : MnOk y.hp) (hZs : ZsOk y.hp) (hls : LssOk y.hp) (hcp : y.hp.cpus ≤ 4) (hcap : ∀ l ∈ y.ls, l.pc = l.pn) (hf : flag16 fl) (_hz : z < 2) (hA : AtL y.hp.lists ⟨cpu, (z : Nat), typeF fl, []⟩ i true) (_h0 : 0 < B) :
    Calls Tryz.prog 65 #[.pointer (some ⟨hbk, 0, none⟩), .int .i64 (z : Nat), .agg #[.int .i64 cpu, .int .i64 0, .int .i64 fl]] w fun e w' => e = .returned (.tuple #[.int .i64 (atO (singleH y.hp cpu z fl)), .bool (singleH y.hp cpu z fl).isSome]) ∧ Got w w' gz gl hbk y (singleH y.hp cpu z fl) := by
 have hlw := row_lt rhbk
 have hll : y.hp.lists.length = y.ln := by show (y.ls.map _).length = _; rw [List.length_map]; exact HY.at_.lists.len
 have hfew := lists_few hls hcp
 have hzn : y.zn = 2 := by have e : y.hp.zones.length = y.zs.length := (by show (y.zs.map _).length = _; rw [List.length_map]); have := hZs.n; have := HY.at_.zones.len; omega
 have hord := riseL_of hls
 have hrp : RiseP y.hp.lists := riseP_of hord
 have hzw : gz < w.heap.size := HY.lt (by omega)
 have hlz : 0 < y.zs.length := by have := HY.at_.zones.len; omega
 have hib : i < y.ln := by have := (hA.2.2.2.1 rfl).1; omega
 have hlr := HY.at_.lists.reach
 obtain ⟨gk, ok, lck, lzk, ltk, lpk, pok, pnk, pck, hak, c0k, c1k, c2k, c3k, hatk, hXk⟩ := HY.at_.lists.at (i) (by omega)
 replace c0k := St.of c0k; replace c1k := St.of c1k; replace c2k := St.of c2k; replace c3k := St.of c3k
 have hke : y.ls.getD i .zero = ⟨⟨lck, lzk, ltk, lpk⟩, pok, pnk, pck⟩ := hXk.out
 have hmk : (⟨⟨lck, lzk, ltk, lpk⟩, pok, pnk, pck⟩ : Lc) ∈ y.ls := by rw [← hke]; exact getD_mem (by have := HY.at_.lists.len; omega)
 obtain rfl : pnk = pck := (hcap _ hmk).symm
 have hmL : (⟨lck, lzk, ltk, lpk⟩ : Ls) ∈ y.hp.lists := List.mem_map.2 ⟨_, hmk, rfl⟩
 have hk8 : 1 ≤ lpk.length ∧ lpk.length ≤ 8 := (lss_mem hls hmL).n
 have hkl : lpk.length = pnk := hatk.len
 obtain ⟨gq, oq, vq, haq, c0q, hXq⟩ := hatk.at_.at (pnk - 1) (by have := hatk.len; omega)
 replace c0q := St.of c0q
 rw [show oq + (pnk - 1) = oq + (pnk - 1) * 1 by omega] at c0q
 have B0 := Below.refl w.heap.size w
 refine sx_enter (args := [_, _, _]) 86 Tryz.func65 rfl rfl rfl ?_
 refine vS (vR ?_); intro A f
 refine l_box f rfl rfl rfl rfl rfl ?_; clear f A; intro b1 W2 eb1 hb3 rb1 A f; dsimp only [Value.cells] at rb1
 have o_hbk_b1 : hbk < b1 := by have := row_lt rhbk; omega
 have z_B0_b1 := B0.size; rw [eb1] at z_B0_b1
 replace B0 := Below.next B0 hb3; replace rhbk := row_next rhbk hb3
 revert A; refine vla (h:=vla (h:=vW (vS ?_))); intro A f
 refine x_cut (fun A W => ∃ b, Fr A 86 [(0, .pointer (some ⟨hbk, 0, none⟩)), (1, .int .i64 (z : Nat)), (5, .pointer (some ⟨b1, 0, none⟩)), (8, .pointer (some ⟨b, 0, none⟩))] ∧ Below W2.heap.size W2 W ∧ W.heap[b]? = some (.cells #[.int .i64 cpu, .int .i64 (z : Nat), .int .i64 (typeF fl), .slice none 0 0] 69 (0, 0)) ∧ W2.heap.size ≤ b) ?_ ?_
 ·skip
  refine a_start (ClB W2) (by kernel_rfl) rfl ?_
  generalize hWd : ({ W2 with drawn := W2.drawn + 1 } : World) = Wd
  have hS := drawn_b hWd
  clear hWd
  refine a_do 0 f rfl (by kernel_rfl) blind_cut hS rfl rfl rfl (y_field rfl rfl (fo rfl)) ?_; clear f A; intro A f
  refine a_do 1 f rfl (by kernel_rfl) blind_cut hS rfl rfl rfl (y_load1 rfl rfl (ag rfl) (rowl (rowq rb1) rfl)) ?_; clear f A; intro A f
  refine a_do 2 f rfl (by kernel_rfl) blind_cut hS rfl rfl rfl (y_move rfl rfl) ?_; clear f A; intro A f
  refine a_do 3 f rfl (by kernel_rfl) blind_cut hS rfl rfl rfl (y_loadN (vs := [_, _, _]) rfl rfl (ag rfl) rfl (rowls (rowq rb1) _ _ ⟨rfl, rfl, rfl, trivial⟩)) ?_; clear f A; intro A f
  refine a_two 4 6 rfl rfl (by kernel_rfl) rfl rfl ?_ ?_
  ·skip
   refine g_call f (IsCall.mk' (cap := []) rfl rfl rfl) (pl rfl) (rqType_c _ cpu 0 fl hf) ?_
   rintro _ We ⟨rfl, hbe⟩
   refine ⟨_, rfl, Below.next hS hbe, a_put f rfl rfl ?_⟩; clear f A; intro A f
   replace hS := Below.next hS hbe
   refine a_do 5 f rfl (by kernel_rfl) blind_cut hS rfl rfl rfl (y_build #[.int .i64 cpu, .int .i64 (z : Nat), .int .i64 (typeF fl), .slice none 0 0] rfl rfl (by kernel_rfl)) ?_; clear f A; intro A f
   refine a_one 6 rfl (by kernel_rfl) rfl ?_
   have hsa := hS.size
   refine g_alloc (z := .agg #[.int .i64 0, .int .i64 0, .int .i64 0, .slice none 0 0]) rfl (by kernel_rfl) ?_
   intro bA Wg ebA hbg rbA
   dsimp only [Value.cells] at rbA
   refine ⟨Below.next hS hbg, a_put f rfl rfl ?_⟩; clear f A; intro A f
   replace hS := Below.next hS hbg
   refine a_one 7 rfl (by kernel_rfl) rfl ?_
   refine g_store f rfl rfl rfl rfl rbA (sz rfl) rfl (Nat.le_of_ble_eq_true rfl) rfl ?_
   clear rbA; intro Wh hbh rbA; dsimp only [setL, over, Value.cells] at rbA
   refine ⟨Below.thenBut hS hbh (by omega), ?_⟩
   replace hS := Below.thenBut hS hbh (by omega)
   refine a_end (by kernel_rfl) ?_
   exact ⟨rfl, bA, f.sub ⟨rfl, rfl, rfl, rfl, trivial⟩, hS, rbA, by omega⟩
  skip
  have hsa := hS.size
  refine g_alloc (z := .agg #[.int .i64 0, .int .i64 0, .int .i64 0, .slice none 0 0]) rfl (by kernel_rfl) ?_
  intro bA Wg ebA hbg rbA
  dsimp only [Value.cells] at rbA
  refine ⟨Below.next hS hbg, a_put f rfl rfl ?_⟩; clear f A; intro A f
  replace hS := Below.next hS hbg
  refine a_one 4 rfl (by kernel_rfl) rfl ?_
  refine g_call f (IsCall.mk' (cap := []) rfl rfl rfl) (pl rfl) (rqType_c _ cpu 0 fl hf) ?_
  rintro _ We ⟨rfl, hbe⟩
  refine ⟨_, rfl, Below.next hS hbe, a_put f rfl rfl ?_⟩; clear f A; intro A f
  replace hS := Below.next hS hbe
  replace rbA := row_next rbA hbe
  refine a_do 5 f rfl (by kernel_rfl) blind_cut hS rfl rfl rfl (y_build #[.int .i64 cpu, .int .i64 (z : Nat), .int .i64 (typeF fl), .slice none 0 0] rfl rfl (by kernel_rfl)) ?_; clear f A; intro A f
  refine a_one 7 rfl (by kernel_rfl) rfl ?_
  refine g_store f rfl rfl rfl rfl rbA (sz rfl) rfl (Nat.le_of_ble_eq_true rfl) rfl ?_
  clear rbA; intro Wh hbh rbA; dsimp only [setL, over, Value.cells] at rbA
  refine ⟨Below.thenBut hS hbh (by omega), ?_⟩
  replace hS := Below.thenBut hS hbh (by omega)
  refine a_end (by kernel_rfl) ?_
  exact ⟨rfl, bA, f.sub ⟨rfl, rfl, rfl, rfl, trivial⟩, hS, rbA, by omega⟩
 skip
 clear f A; rintro A W4 ⟨b8, f, hb1, rb8, hb8⟩
 have o_hbk_b8 : hbk < b8 := by have := row_lt rhbk; omega
 have o_b1_b8 : b1 < b8 := by have := row_lt rb1; omega
 have hsA := B0.size
 replace B0 := Below.next B0 hb1; replace rhbk := row_next rhbk hb1; replace rb1 := row_next rb1 hb1
 revert A; refine vT (vS (vS ?_)); intro A f
 refine sx_quiet (by kernel_rfl) (by kernel_rfl) ?_
 revert A; refine vqm (h:=vqi (h:=vq5 (rowq rhbk) (h:=vq4 (rowq rb8) (h:=vqc (fun wx hx => (pListAt_c wx y ⟨cpu, (z : Nat), typeF fl, []⟩ (.slice none 0 0) (HY.at_.below (Below.next B0 hx)) hord hA).mono (fun e w1 h1 => ⟨h1.1, Below.next hx h1.2⟩)) (h:=vqm (h:=vqe (h:=vqe (h:=vqa (h:=vqa (h:=vQ ?_)))))))))); intro W6 hb5; replace B0 := Below.next B0 hb5; replace rhbk := row_next rhbk hb5; replace rb1 := row_next rb1 hb5; replace rb8 := row_next rb8 hb5
 refine vT (vS (vR (vlm (h:=vW (vC (h:=vS (vR (vlm (h:=vli (h:=vlf (h:=vl1 (rowq rhbk) (h:=vlm (h:=vlx (h:=vlf (h:=vld (y_load1 rfl rfl (ag rfl) (by first | assumption | exact St.q c0k B0 | exact St.q c1k B0 | exact St.q c2k B0 | exact St.q c3k B0 | exact St.q c0q B0)) (h:=vla (h:=vW (vS (vR (vlm (h:=vlz (h:=vld (y_sub (c := ((pnk - 1 : Nat) : Int)) rfl rfl rfl (by omega) (by omega)) (h:=vla (h:=vW (vS (vR (vlm (h:=vlm (h:=vlx (h:=vld (y_load1 rfl rfl (ag rfl) (by first | assumption | exact St.q c0k B0 | exact St.q c1k B0 | exact St.q c2k B0 | exact St.q c3k B0 | exact St.q c0q B0)) (h:=vla (h:=vW (vS ?_)))))))))))))))))))))))))))))))))
 have hS0 : ∀ wx, Below W6.heap.size W6 wx → wx.heap[b8]? = some (.cells #[.int .i64 cpu, .int .i64 (z : Nat), .int .i64 (typeF fl), .slice none 0 0] 69 (0, 0)) := fun wx h => row_next rb8 h
 intro A f
 refine sx_heldl (n := 5) (fun wx => Below W6.heap.size W6 wx) [] (by kernel_rfl) (by kernel_rfl) rfl (by kernel_rfl) (blind_then (blind_then (blind_body))) ((Below.refl _ _).drew) ?_
 dsimp only [List.take]
 generalize hWd : ({ W6 with drawn := W6.drawn + 1 } : World) = W7
 have hdr := drawn_b hWd
 clear hWd
 replace B0 := Below.next B0 hdr; replace rhbk := row_next rhbk hdr; replace rb1 := row_next rb1 hdr; replace rb8 := row_next rb8 hdr
 revert A; refine vhm (h:=vh4 hS0 (h:=vhm (h:=vhm (h:=vhd (y_sliceTo (H := pnk - 1) rfl rfl rfl (by omega)) (h:=vM ?_))))); intro A f
 show Oper.wp _ _ _ _ _ _
 have hsB := B0.size
 have hpl := al.p _ hmk
 have hph := ah.p _ hmk
 have htl : (lpk.take (pnk - 1)).length = pnk - 1 := by rw [List.length_take]; omega
 refine g_call f (IsCall.mk' (cap := []) rfl rfl rfl) (pl rfl) (pSetList_t _ B gl hbk y ⟨cpu, (z : Nat), typeF fl, lpk.take (pnk - 1)⟩ (.slice none 0 0) pok (pnk - 1) pnk i rhbk (owns_below ol B0 (Nat.le_refl _)) el (HY.at_.below B0) al ah hhl (by omega) hord (nums_take (hatk.below B0) (by omega)) (fun h0 a ha => ⟨hpl (by show 0 < lpk.length; omega) a ha, hph (by show 0 < lpk.length; omega) a ha⟩) (by omega) (by omega) hib hA) ?_
 rintro _ W8 ⟨rfl, ls2, lo2, ln2, lc2, rh2, hAt2, hls2, hbu, hlo2, hmem2⟩
 refine ⟨_, rfl, x_put f rfl rfl ?_⟩; clear f A
 refine vT (vS (vR (vlm (h:=vla (h:=vla (h:=vW (vE (vF ?_)))))))); intro A f
 refine x_ret2 f rfl rfl rfl ?_
 have hL : lsPages y.hp.lists ⟨cpu, (z : Nat), typeF fl, []⟩ = lpk := by rw [lsPages_at hrp hA, if_pos rfl]; show ((List.map (fun x : Lc => x.l) y.ls).getD i Ls.zero).pages = lpk; rw [getD_l, hke]
 have hr : singleH y.hp cpu z fl = some ({ y.hp with lists := setLs y.hp.lists ⟨cpu, (z : Nat), typeF fl, lpk.take (pnk - 1)⟩ }, vq) := by unfold singleH; rw [hL, if_pos (by omega), hkl, hXq.out]
 rw [hr]
 refine ⟨rfl, .inr ⟨by simp, y.zs, ls2, lo2, ln2, lc2, rh2, hAt2, ?_, (Ex.of_below B0).trans (Ex.of_bu2 hbu (.inr (.inr rfl)) (.inr (.inl rfl))), fun b hb hbl ha => ?_⟩⟩
 ·show ({ y.hp with lists := ls2.map (·.l) } : Hp) = _
  rw [hls2]
  rfl
 exact awayP_withL ha (fun _ a h => by rcases hlo2 a h with e | e <;> omega) (fun l hl => by rcases hmem2 l hl with h | rfl; (exact .inl h); exact .inr (fun a h => ha.p _ hmk (by show 0 < lpk.length; omega) a h))
theorem pSingle_f (w : World) (B gz gl hbk : Nat) (y : Hx) (z i : Nat) (cpu fl : Int) (rhbk : w.heap[hbk]? = some (.cells #[.slice y.zo y.zn y.zc, .slice y.mo y.mn y.mc, .int .i64 y.cpus, .slice y.lo y.ln y.lc, .slice y.vo y.vn y.vc] 34 (0, 0))) (HY : HZ w B gz y) (ol : w.ownsRow B 69 4 (.slice y.lo y.ln y.lc) y.ln (c4 (y.ls.map Lc.q))) (el : ∀ a, y.lo = some a → a.block = gl) (al : AwayL gl y) (ah : AwayL hbk y)
    (hhz : hbk ≠ gz) (hhl : hbk ≠ gl) (hzl : gz ≠ gl) (hgw : gl < w.heap.size) (hB : B ≤ w.heap.size) (hT : TabAt w) (hMn : MnOk y.hp) (hZs : ZsOk y.hp) (hls : LssOk y.hp) (hcp : y.hp.cpus ≤ 4) (_hcap : ∀ l ∈ y.ls, l.pc = l.pn) (hf : flag16 fl) (hz : z < 2) (hA : AtL y.hp.lists ⟨cpu, (z : Nat), typeF fl, []⟩ i false) (h0 : 0 < B) :
    Calls Tryz.prog 65 #[.pointer (some ⟨hbk, 0, none⟩), .int .i64 (z : Nat), .agg #[.int .i64 cpu, .int .i64 0, .int .i64 fl]] w fun e w' => e = .returned (.tuple #[.int .i64 (atO (singleH y.hp cpu z fl)), .bool (singleH y.hp cpu z fl).isSome]) ∧ Got w w' gz gl hbk y (singleH y.hp cpu z fl) := by
 have hlw := row_lt rhbk
 have hll : y.hp.lists.length = y.ln := by show (y.ls.map _).length = _; rw [List.length_map]; exact HY.at_.lists.len
 have hfew := lists_few hls hcp
 have hzn : y.zn = 2 := by have e : y.hp.zones.length = y.zs.length := (by show (y.zs.map _).length = _; rw [List.length_map]); have := hZs.n; have := HY.at_.zones.len; omega
 have hord := riseL_of hls
 have hrp : RiseP y.hp.lists := riseP_of hord
 have hzw : gz < w.heap.size := HY.lt (by omega)
 have hlz : 0 < y.zs.length := by have := HY.at_.zones.len; omega
 have hil := hA.1
 have rhbk0 := rhbk
 have B0 := Below.refl w.heap.size w
 refine sx_enter (args := [_, _, _]) 86 Tryz.func65 rfl rfl rfl ?_
 refine vS (vR ?_); intro A f
 refine l_box f rfl rfl rfl rfl rfl ?_; clear f A; intro b1 W2 eb1 hb3 rb1 A f; dsimp only [Value.cells] at rb1
 have o_hbk_b1 : hbk < b1 := by have := row_lt rhbk; omega
 have z_B0_b1 := B0.size; rw [eb1] at z_B0_b1
 replace B0 := Below.next B0 hb3; replace rhbk := row_next rhbk hb3
 revert A; refine vla (h:=vla (h:=vW (vS ?_))); intro A f
 refine x_cut (fun A W => ∃ b, Fr A 86 [(0, .pointer (some ⟨hbk, 0, none⟩)), (1, .int .i64 (z : Nat)), (5, .pointer (some ⟨b1, 0, none⟩)), (8, .pointer (some ⟨b, 0, none⟩))] ∧ Below W2.heap.size W2 W ∧ W.heap[b]? = some (.cells #[.int .i64 cpu, .int .i64 (z : Nat), .int .i64 (typeF fl), .slice none 0 0] 69 (0, 0)) ∧ W2.heap.size ≤ b) ?_ ?_
 ·skip
  refine a_start (ClB W2) (by kernel_rfl) rfl ?_
  generalize hWd : ({ W2 with drawn := W2.drawn + 1 } : World) = Wd
  have hS := drawn_b hWd
  clear hWd
  refine a_do 0 f rfl (by kernel_rfl) blind_cut hS rfl rfl rfl (y_field rfl rfl (fo rfl)) ?_; clear f A; intro A f
  refine a_do 1 f rfl (by kernel_rfl) blind_cut hS rfl rfl rfl (y_load1 rfl rfl (ag rfl) (rowl (rowq rb1) rfl)) ?_; clear f A; intro A f
  refine a_do 2 f rfl (by kernel_rfl) blind_cut hS rfl rfl rfl (y_move rfl rfl) ?_; clear f A; intro A f
  refine a_do 3 f rfl (by kernel_rfl) blind_cut hS rfl rfl rfl (y_loadN (vs := [_, _, _]) rfl rfl (ag rfl) rfl (rowls (rowq rb1) _ _ ⟨rfl, rfl, rfl, trivial⟩)) ?_; clear f A; intro A f
  refine a_two 4 6 rfl rfl (by kernel_rfl) rfl rfl ?_ ?_
  ·skip
   refine g_call f (IsCall.mk' (cap := []) rfl rfl rfl) (pl rfl) (rqType_c _ cpu 0 fl hf) ?_
   rintro _ We ⟨rfl, hbe⟩
   refine ⟨_, rfl, Below.next hS hbe, a_put f rfl rfl ?_⟩; clear f A; intro A f
   replace hS := Below.next hS hbe
   refine a_do 5 f rfl (by kernel_rfl) blind_cut hS rfl rfl rfl (y_build #[.int .i64 cpu, .int .i64 (z : Nat), .int .i64 (typeF fl), .slice none 0 0] rfl rfl (by kernel_rfl)) ?_; clear f A; intro A f
   refine a_one 6 rfl (by kernel_rfl) rfl ?_
   have hsa := hS.size
   refine g_alloc (z := .agg #[.int .i64 0, .int .i64 0, .int .i64 0, .slice none 0 0]) rfl (by kernel_rfl) ?_
   intro bA Wg ebA hbg rbA
   dsimp only [Value.cells] at rbA
   refine ⟨Below.next hS hbg, a_put f rfl rfl ?_⟩; clear f A; intro A f
   replace hS := Below.next hS hbg
   refine a_one 7 rfl (by kernel_rfl) rfl ?_
   refine g_store f rfl rfl rfl rfl rbA (sz rfl) rfl (Nat.le_of_ble_eq_true rfl) rfl ?_
   clear rbA; intro Wh hbh rbA; dsimp only [setL, over, Value.cells] at rbA
   refine ⟨Below.thenBut hS hbh (by omega), ?_⟩
   replace hS := Below.thenBut hS hbh (by omega)
   refine a_end (by kernel_rfl) ?_
   exact ⟨rfl, bA, f.sub ⟨rfl, rfl, rfl, rfl, trivial⟩, hS, rbA, by omega⟩
  skip
  have hsa := hS.size
  refine g_alloc (z := .agg #[.int .i64 0, .int .i64 0, .int .i64 0, .slice none 0 0]) rfl (by kernel_rfl) ?_
  intro bA Wg ebA hbg rbA
  dsimp only [Value.cells] at rbA
  refine ⟨Below.next hS hbg, a_put f rfl rfl ?_⟩; clear f A; intro A f
  replace hS := Below.next hS hbg
  refine a_one 4 rfl (by kernel_rfl) rfl ?_
  refine g_call f (IsCall.mk' (cap := []) rfl rfl rfl) (pl rfl) (rqType_c _ cpu 0 fl hf) ?_
  rintro _ We ⟨rfl, hbe⟩
  refine ⟨_, rfl, Below.next hS hbe, a_put f rfl rfl ?_⟩; clear f A; intro A f
  replace hS := Below.next hS hbe
  replace rbA := row_next rbA hbe
  refine a_do 5 f rfl (by kernel_rfl) blind_cut hS rfl rfl rfl (y_build #[.int .i64 cpu, .int .i64 (z : Nat), .int .i64 (typeF fl), .slice none 0 0] rfl rfl (by kernel_rfl)) ?_; clear f A; intro A f
  refine a_one 7 rfl (by kernel_rfl) rfl ?_
  refine g_store f rfl rfl rfl rfl rbA (sz rfl) rfl (Nat.le_of_ble_eq_true rfl) rfl ?_
  clear rbA; intro Wh hbh rbA; dsimp only [setL, over, Value.cells] at rbA
  refine ⟨Below.thenBut hS hbh (by omega), ?_⟩
  replace hS := Below.thenBut hS hbh (by omega)
  refine a_end (by kernel_rfl) ?_
  exact ⟨rfl, bA, f.sub ⟨rfl, rfl, rfl, rfl, trivial⟩, hS, rbA, by omega⟩
 skip
 clear f A; rintro A W4 ⟨b8, f, hb1, rb8, hb8⟩
 have o_hbk_b8 : hbk < b8 := by have := row_lt rhbk; omega
 have o_b1_b8 : b1 < b8 := by have := row_lt rb1; omega
 have hsA := B0.size
 replace B0 := Below.next B0 hb1; replace rhbk := row_next rhbk hb1; replace rb1 := row_next rb1 hb1
 revert A; refine vT (vS (vS ?_)); intro A f
 refine sx_quiet (by kernel_rfl) (by kernel_rfl) ?_
 revert A; refine vqm (h:=vqi (h:=vq5 (rowq rhbk) (h:=vq4 (rowq rb8) (h:=vqc (fun wx hx => (pListAt_c wx y ⟨cpu, (z : Nat), typeF fl, []⟩ (.slice none 0 0) (HY.at_.below (Below.next B0 hx)) hord hA).mono (fun e w1 h1 => ⟨h1.1, Below.next hx h1.2⟩)) (h:=vqm (h:=vqe (h:=vqe (h:=vqa (h:=vqa (h:=vQ ?_)))))))))); intro W6 hb5; replace B0 := Below.next B0 hb5; replace rhbk := row_next rhbk hb5; replace rb1 := row_next rb1 hb5; replace rb8 := row_next rb8 hb5
 refine vT (vS (vR (vlm (h:=vW (vD (h:=vK (vT (vS (vR (vlm (h:=vlm (h:=vl3 (rowq rb1) (h:=?_))))))))))))); intro A f
 rcases hr1 : takeGH y.hp z 0 fl with _ | ⟨G1, p1⟩
 ·skip
  have hq := pTake_c _ B gz hbk y z cpu 0 fl rhbk (HY.below B0) hhz (hT.below B0) hMn hZs hf hz (by unfold ordOk; omega)
  rw [hr1] at hq
  refine l_call f rfl rfl rfl (IsCall.mk' (cap := []) rfl rfl rfl) (pl rfl) hq ?_
  clear f A; rintro _ W7 ⟨rfl, hno, -⟩
  have hb8 := hno rfl
  refine ⟨_, rfl, ?_⟩; intro A f
  replace B0 := Below.next B0 hb8; replace rhbk := row_next rhbk hb8; replace rb1 := row_next rb1 hb8; replace rb8 := row_next rb8 hb8
  revert A; refine vlm (h:=vle (h:=vle (h:=vla (h:=vla (h:=vW (vS (vS (vR (vlm (h:=vln (h:=vW (vC (h:=vS (vR (vla (h:=vla (h:=vW (vE (vF ?_))))))))))))))))))); intro A f
  refine x_ret2 f rfl rfl rfl ?_
  have hL : lsPages y.hp.lists ⟨cpu, (z : Nat), typeF fl, []⟩ = [] := by rw [lsPages_at hrp hA]; rfl
  have hr : singleH y.hp cpu z fl = none := by unfold singleH; rw [hL, if_neg (by simp), hr1]
  rw [hr]
  exact ⟨rfl, .inl ⟨rfl, B0⟩⟩
 skip
 have hq := pTake_c _ B gz hbk y z cpu 0 fl rhbk (HY.below B0) hhz (hT.below B0) hMn hZs hf hz (by unfold ordOk; omega)
 rw [hr1] at hq
 refine l_call f rfl rfl rfl (IsCall.mk' (cap := []) rfl rfl rfl) (pl rfl) hq ?_
 clear f A; rintro _ W9 ⟨rfl, -, zs1, hzs1, HY1, hbt1, haf1⟩
 refine ⟨_, rfl, ?_⟩; intro A f
 have hsB := B0.size
 have hs1 := hbt1.size
 replace rhbk := But.row hbt1 rhbk (by omega); replace rb1 := But.row hbt1 rb1 (by omega); replace rb8 := But.row hbt1 rb8 (by omega)
 have hbt := (But.of_below B0).trans hbt1
 revert A; refine vlm (h:=vle (h:=vle (h:=vla (h:=vla (h:=vW (vS (vS (vR (vlm (h:=vln (h:=vW (vD (h:=vK (vT (vS (vR (vla (h:=vW (vS (vS (vR (vlm (h:=vW (vB ?_))))))))))))))))))))))))
 have hG1 : (y.withZ zs1).hp = G1 := hzs1
 obtain ⟨hZ1, _, _, _, _, hp0⟩ := takeH_ok hZs hz (by unfold ordOk; omega) hr1
 replace haf1 : ∀ b, b < w.heap.size → AwayF b y → AwayF b (y.withZ zs1) := fun b hb ha => haf1 b (by omega) ha
 intro A f
 clear rhbk
 refine x_loop (fun n A W => ∃ (k : Nat) (zs : List Zc) (ps : List Int) (vo : Option Addr) (vc : Nat), n = 3 - k ∧ k ≤ 3 ∧ Fr A 86 [(0, .pointer (some ⟨hbk, 0, none⟩)), (1, .int .i64 (z : Nat)), (5, .pointer (some ⟨b1, 0, none⟩)), (8, .pointer (some ⟨b8, 0, none⟩)), (14, .int .i64 p1), (16, .slice vo k vc), (65, .int .i64 (k : Nat))] ∧ W.heap[b1]? = some (.cells #[.int .i64 cpu, .int .i64 0, .int .i64 fl] 87 (0, 0)) ∧ W.heap[b8]? = some (.cells #[.int .i64 cpu, .int .i64 (z : Nat), .int .i64 (typeF fl), .slice none 0 0] 69 (0, 0)) ∧ W.ownsRow (b8 + 1) 3 1 (.slice vo k vc) k (vals ps) ∧ moreH (3 - k) (y.withZ zs).hp z fl ps = moreH 3 G1 z fl [] ∧ ZsOk (y.withZ zs).hp ∧ HZ W B gz (y.withZ zs) ∧ But gz w W ∧ (∀ b, b < w.heap.size → AwayF b y → AwayF b (y.withZ zs)) ∧ (∀ a, vo = some a → AwayF a.block (y.withZ zs))) (n0 := 3) (⟨0, zs1, [], none, 0, rfl, by omega, f.sub ⟨rfl, rfl, rfl, rfl, rfl, rfl, rfl, trivial⟩, rb1, rb8, World.ownsRow_nil _ _ _ _, by rw [hG1], by rw [hG1]; exact hZ1, HY1, hbt, haf1, fun a ha => by cases ha⟩) ?_
 clear f A
 rintro n A W11 ⟨k, zs, ps, vo, vc, hn, hk, f, rb1, rb8, own, hmore, hZk, HYk, hbt, haf, hvo⟩
 have BW := Below.refl W11.heap.size W11
 have rhk := But.row hbt rhbk0 hhz
 have hTk := hT.but hbt (by have := HYk.gB; omega)
 have hsk := hbt.size
 revert A; refine vS (vR (vlb (y_lss rfl rfl rfl) (h:=?_) (g:=?_)))
 ·intro c12
  refine vW (vS (vC (h:=vK (vT (vS (vB (vS (vR ?_))))))))
  have own0 := own
  refine vlm (h:=vlm (h:=vl3 (rowq rb1) (h:=?_))); intro A f
  rcases hr2 : takeGH (y.withZ zs).hp z 0 fl with _ | ⟨G2, p2⟩
  ·skip
   have hq := pTake_c _ B gz hbk (y.withZ zs) z cpu 0 fl rhk (HYk.below BW) hhz (hTk.below BW) ⟨hMn.n, hMn.a, hMn.b⟩ hZk hf hz (by unfold ordOk; omega)
   rw [hr2] at hq
   refine l_call f rfl rfl rfl (IsCall.mk' (cap := []) rfl rfl rfl) (pl rfl) hq ?_
   clear f A; rintro _ W13 ⟨rfl, hno, -⟩
   have hb14 := hno rfl
   refine ⟨_, rfl, ?_⟩; intro A f
   replace BW := Below.next BW hb14; replace rb1 := row_next rb1 hb14; replace rb8 := row_next rb8 hb14; replace rhk := row_next rhk hb14
   revert A; refine vlm (h:=vle (h:=vle (h:=vla (h:=vla (h:=vW (vS (vS (vR (vlm (h:=vln (h:=vW (vC (h:=vX (vH (vJ (h:=vH (vH (vI (vT (vS (vR (vlm (h:=vl4 (rowq rb8) (h:=vlm (h:=?_)))))))))))))))))))))))))
   replace HYk := HYk.below BW
   replace hbt := hbt.gr BW
   replace own := owns_below own BW (Nat.le_refl _)
   have hsz := hbt.size
   have olk : W13.ownsRow B 69 4 (.slice y.lo y.ln y.lc) y.ln (c4 (y.ls.map Lc.q)) := owns_butN ol hbt (fun a ha => by have := el a ha; omega)
   have al2 : AwayL gl (y.withZ zs) := awayL_withZ al (haf gl (by omega) al.toF) hlz
   have ah2 : AwayL hbk (y.withZ zs) := awayL_withZ ah (haf hbk (by omega) ah.toF) hlz
   have hN5 : Nums W13 vo k ps := nums_of_owns own (by omega)
   intro A f
   refine l_call f rfl rfl rfl (IsCall.mk' (cap := []) rfl rfl rfl) (pl rfl) (pSetList_f _ B gl hbk (y.withZ zs) ⟨cpu, (z : Nat), typeF fl, ps⟩ (.slice none 0 0) vo k vc i rhk olk el HYk.at_ al2 ah2 hhl (by omega) hord hN5 (fun _ a ha => by have := (owns_blk own a ha).1; omega) (by omega) (by show y.ln ≤ 300; omega) hA) ?_
   clear f A
   rintro _ W15 ⟨rfl, ls2, lo2, ln2, lc2, rh2, hAt2, hls2, hbu, hlo2, hmem2⟩
   refine ⟨_, rfl, ?_⟩
   refine vW (vS (vR (vlm (h:=vla (h:=vla (h:=vW (vE ?_))))))); intro A f
   refine x_ret2 f rfl rfl rfl ?_
   have hL : lsPages y.hp.lists ⟨cpu, (z : Nat), typeF fl, []⟩ = [] := by rw [lsPages_at hrp hA]; rfl
   have hmk : moreH 3 G1 z fl [] = ((y.withZ zs).hp, ps) := by rw [← hmore]; rw [show 3 - k = (2 - k) + 1 by omega, moreH_none hr2]
   have hr : singleH y.hp cpu z fl = some ({ (y.withZ zs).hp with lists := setLs (y.withZ zs).hp.lists ⟨cpu, (z : Nat), typeF fl, ps⟩ }, p1) := by unfold singleH; rw [hL, if_neg (by simp), hr1]; show some _ = _; rw [hmk]
   rw [hr]
   refine ⟨rfl, .inr ⟨by simp, zs, ls2, lo2, ln2, lc2, rh2, hAt2, ?_, (Ex.of_but hbt (.inl rfl)).trans (Ex.of_bu2 hbu (.inr (.inr rfl)) (.inr (.inl rfl))), fun b hb hbl ha => ?_⟩⟩
   ·show ({ (y.withZ zs).hp with lists := ls2.map (·.l) } : Hp) = _
    rw [hls2]
    rfl
   exact awayP_withL (awayP_F ha (haf b hb ⟨ha.f, ha.t⟩)) (fun _ a h => by rcases hlo2 a h with e | e <;> omega) (fun l hl => by rcases hmem2 l hl with h | rfl; (exact .inl h); exact .inr (fun a h => by have := (owns_blk own a h).1; omega))
  skip
  have hq := pTake_c _ B gz hbk (y.withZ zs) z cpu 0 fl rhk (HYk.below BW) hhz (hTk.below BW) ⟨hMn.n, hMn.a, hMn.b⟩ hZk hf hz (by unfold ordOk; omega)
  rw [hr2] at hq
  refine l_call f rfl rfl rfl (IsCall.mk' (cap := []) rfl rfl rfl) (pl rfl) hq ?_
  clear f A; rintro _ W16 ⟨rfl, -, zs2, hzs2, HY2, hbt2, haf2⟩
  refine ⟨_, rfl, ?_⟩; intro A f
  have hsW := BW.size
  have hs2 := hbt2.size
  replace rb1 := But.row hbt2 rb1 (by omega); replace rb8 := But.row hbt2 rb8 (by omega); replace rhk := But.row hbt2 rhk (by omega)
  replace own := owns_butN (owns_below own BW (Nat.le_refl _)) hbt2 (fun a ha => by have := (owns_blk own a ha).1; omega)
  have hbtn := (hbt.gr BW).trans hbt2
  revert A; refine vlm (h:=vle (h:=vle (h:=vla (h:=vla (h:=vW (vS (vS (vR (vlm (h:=vln (h:=vW (vD (h:=vK (vT (vR (vlm (h:=vlm (h:=?_))))))))))))))))))
  obtain ⟨gb, hgb⟩ : ∃ g, g = W16.heap.size := ⟨_, rfl⟩
  intro A f
  refine l_opR (R := fun v W => v = .slice (some ⟨gb, 0, none⟩) 1 1 ∧ Below W16.heap.size W16 W ∧ W.heap[gb]? = some (.cells #[.int .i64 p2] 3 (0, 0))) f rfl rfl rfl ⟨_, _, bs_exec f rfl rfl (bs_int1 _ _), by rw [hgb], (Below.refl _ _).alloc (Nat.le_refl _) _, by rw [hgb]; show (Array.push _ _)[_]? = _; (rw [Array.getElem?_push, if_pos rfl] <;> rfl)⟩ ?_
  clear f A
  rintro _ W18 ⟨rfl, hb19, rgb⟩ A f
  replace hbtn := hbtn.gr hb19; replace HY2 := HY2.below hb19; replace rb1 := row_next rb1 hb19; replace rb8 := row_next rb8 hb19; replace rhk := row_next rhk hb19
  replace own := owns_below own hb19 (Nat.le_refl _)
  have hsn := hbtn.size
  have l5 := row_lt rb1
  have l8 := row_lt rb8
  refine l_opR (R := fun v W => ∃ g9 c9, v = .slice (some ⟨g9, 0, none⟩) (k + 1) c9 ∧ W.ownsRow (b8 + 1) 3 1 (.slice (some ⟨g9, 0, none⟩) (k + 1) c9) (k + 1) (vals (ps ++ [p2])) ∧ ((vo = some ⟨g9, 0, none⟩ ∧ But g9 W18 W) ∨ (g9 = W18.heap.size ∧ Below W18.heap.size W18 W))) f rfl rfl rfl (by obtain ⟨g1, c1, W1, h1, h2, h3⟩ := app_own1 W18 _ _ vo k vc ps p2 gb own (by omega) rgb (by omega); exact ⟨_, W1, append_exec f rfl rfl rfl h1, g1, c1, rfl, h2, h3⟩) ?_
  clear f A
  rintro _ W20 ⟨g9, c9, rfl, own9, hcs⟩ A f
  have hall : W20.heap[b1]? = some (.cells #[.int .i64 cpu, .int .i64 0, .int .i64 fl] 87 (0, 0)) ∧ W20.heap[b8]? = some (.cells #[.int .i64 cpu, .int .i64 (z : Nat), .int .i64 (typeF fl), .slice none 0 0] 69 (0, 0)) ∧ HZ W20 B gz (y.withZ zs2) ∧ But gz w W20 ∧ AwayF g9 (y.withZ zs2) := by
   rcases hcs with ⟨e9, h9⟩ | ⟨e9, h9⟩
   ·have hg9 := (owns_blk own _ e9).1
    have hF9 : AwayF g9 (y.withZ zs2) := haf2 _ (owns_blk own0 _ e9).2.1 (hvo _ e9)
    dsimp only at hg9
    exact ⟨But.row h9 rb1 (by omega), But.row h9 rb8 (by omega), HY2.but h9 (by omega) (awayF_away (y := y) (zs := zs2) (away_old HY.at_ (by omega)) hF9), But.then_new hbtn h9 (by omega), hF9⟩
   exact ⟨row_next rb1 h9, row_next rb8 h9, HY2.below h9, hbtn.gr h9, awayF_old HY2.at_ (by omega)⟩
  clear rb1 rb8 HY2 hbtn
  obtain ⟨rb1, rb8, HY2, hbtn, hgF⟩ := hall
  replace own := own9
  revert A; refine vla (h:=vN (vU (vT (vR (vlA (h:=vlm (h:=vW ?_))))))); intro A f
  refine ⟨2 - k, by omega, k + 1, zs2, ps ++ [p2], _, _, by omega, by omega, f.sub ⟨rfl, rfl, rfl, rfl, rfl, rfl, rfl, trivial⟩, rb1, rb8, own, ?_, ?_, HY2, hbtn, fun b hb ha => haf2 b (by omega) (haf b hb ha), fun a ha => ?_⟩
  ·rw [← hmore, show 3 - k = (2 - k) + 1 by omega, moreH_some hr2, show 3 - (k + 1) = 2 - k by omega, show (y.withZ zs2).hp = G2 from hzs2]
  ·rw [show (y.withZ zs2).hp = G2 from hzs2]; exact (takeH_ok hZk hz (by unfold ordOk; omega) hr2).1
  cases ha; exact hgF
 intro c12
 refine vW (vS (vD (h:=vX (vH (vH (vI (vT (vS (vR (vlm (h:=vl4 (rowq rb8) (h:=vlm (h:=?_)))))))))))))
 replace HYk := HYk.below BW
 replace hbt := hbt.gr BW
 replace own := owns_below own BW (Nat.le_refl _)
 have hsz := hbt.size
 have olk : W11.ownsRow B 69 4 (.slice y.lo y.ln y.lc) y.ln (c4 (y.ls.map Lc.q)) := owns_butN ol hbt (fun a ha => by have := el a ha; omega)
 have al2 : AwayL gl (y.withZ zs) := awayL_withZ al (haf gl (by omega) al.toF) hlz
 have ah2 : AwayL hbk (y.withZ zs) := awayL_withZ ah (haf hbk (by omega) ah.toF) hlz
 have hN5 : Nums W11 vo k ps := nums_of_owns own (by omega)
 intro A f
 refine l_call f rfl rfl rfl (IsCall.mk' (cap := []) rfl rfl rfl) (pl rfl) (pSetList_f _ B gl hbk (y.withZ zs) ⟨cpu, (z : Nat), typeF fl, ps⟩ (.slice none 0 0) vo k vc i rhk olk el HYk.at_ al2 ah2 hhl (by omega) hord hN5 (fun _ a ha => by have := (owns_blk own a ha).1; omega) (by omega) (by show y.ln ≤ 300; omega) hA) ?_
 clear f A
 rintro _ W21 ⟨rfl, ls2, lo2, ln2, lc2, rh2, hAt2, hls2, hbu, hlo2, hmem2⟩
 refine ⟨_, rfl, ?_⟩
 refine vW (vS (vR (vlm (h:=vla (h:=vla (h:=vW (vE ?_))))))); intro A f
 refine x_ret2 f rfl rfl rfl ?_
 have hL : lsPages y.hp.lists ⟨cpu, (z : Nat), typeF fl, []⟩ = [] := by rw [lsPages_at hrp hA]; rfl
 have hmk : moreH 3 G1 z fl [] = ((y.withZ zs).hp, ps) := by rw [← hmore]; rw [show 3 - k = 0 by omega]; rfl
 have hr : singleH y.hp cpu z fl = some ({ (y.withZ zs).hp with lists := setLs (y.withZ zs).hp.lists ⟨cpu, (z : Nat), typeF fl, ps⟩ }, p1) := by unfold singleH; rw [hL, if_neg (by simp), hr1]; show some _ = _; rw [hmk]
 rw [hr]
 refine ⟨rfl, .inr ⟨by simp, zs, ls2, lo2, ln2, lc2, rh2, hAt2, ?_, (Ex.of_but hbt (.inl rfl)).trans (Ex.of_bu2 hbu (.inr (.inr rfl)) (.inr (.inl rfl))), fun b hb hbl ha => ?_⟩⟩
 ·show ({ (y.withZ zs).hp with lists := ls2.map (·.l) } : Hp) = _
  rw [hls2]
  rfl
 exact awayP_withL (awayP_F ha (haf b hb ⟨ha.f, ha.t⟩)) (fun _ a h => by rcases hlo2 a h with e | e <;> omega) (fun l hl => by rcases hmem2 l hl with h | rfl; (exact .inl h); exact .inr (fun a h => by have := (owns_blk own a h).1; omega))
theorem pSingle_any (w : World) (B gz gl hbk : Nat) (y : Hx) (z : Nat) (cpu fl : Int) (rhbk : w.heap[hbk]? = some (.cells #[.slice y.zo y.zn y.zc, .slice y.mo y.mn y.mc, .int .i64 y.cpus, .slice y.lo y.ln y.lc, .slice y.vo y.vn y.vc] 34 (0, 0))) (HY : HZ w B gz y) (ol : w.ownsRow B 69 4 (.slice y.lo y.ln y.lc) y.ln (c4 (y.ls.map Lc.q))) (el : ∀ a, y.lo = some a → a.block = gl) (al : AwayL gl y) (ah : AwayL hbk y)
    (hhz : hbk ≠ gz) (hhl : hbk ≠ gl) (hzl : gz ≠ gl) (hgw : gl < w.heap.size) (hB : B ≤ w.heap.size) (hT : TabAt w) (hMn : MnOk y.hp) (hZs : ZsOk y.hp) (hls : LssOk y.hp) (hcp : y.hp.cpus ≤ 4) (hcap : ∀ l ∈ y.ls, l.pc = l.pn) (hf : flag16 fl) (hz : z < 2) (h0 : 0 < B) :
    Calls Tryz.prog 65 #[.pointer (some ⟨hbk, 0, none⟩), .int .i64 (z : Nat), .agg #[.int .i64 cpu, .int .i64 0, .int .i64 fl]] w fun e w' => e = .returned (.tuple #[.int .i64 (atO (singleH y.hp cpu z fl)), .bool (singleH y.hp cpu z fl).isSome]) ∧ Got w w' gz gl hbk y (singleH y.hp cpu z fl) := by
 obtain ⟨i, b, hA⟩ := at_exists (riseP_of (riseL_of hls)) ⟨cpu, (z : Nat), typeF fl, []⟩
 cases b
 ·exact pSingle_f w B gz gl hbk y z i cpu fl rhbk HY ol el al ah hhz hhl hzl hgw hB hT hMn hZs hls hcp hcap hf hz hA h0
 exact pSingle_t w B gz gl hbk y z i cpu fl rhbk HY ol el al ah hhz hhl hzl hgw hB hT hMn hZs hls hcp hcap hf hz hA h0
end Go.Proofs.YtjohdbiipeedkaaGreatDoor
