/-
  gate's Next: which batch comes next.
  gate's Next: what batches with a lesser and a greater bound have in common; one contract for whatever is asked.
  Plain mathematics: the batches of a lane, one behind the other, have each cell that isn't ahead of its base just once (P17.2).
  Plain mathematics: what the basin of GateCovers holds when its loops begin.
  gate: alive, a fixed fact.
-/
import Derived.Test.YtogbhiklhcibdaaPk46
import Derived.Test.YtogbhiklhcibdaaPk44
import Derived.Test.YtogbhiklhcibdaaPk43
import Derived.Test.YtogbhiklhcibdaaPk48
namespace Go.Proofs.Ytogbhiklhcibdaa
open Go.RowKit Go.Maps
set_option linter.unusedVariables false
set_option maxRecDepth 100000

theorem eltEn : Try.prog.underlying 46 = some (.slice (Try.prog.elem 46)) := by kernel_rfl
theorem sizeEn (w : World) : (sizeOf (Try.prog.elem 46)).run Try.prog w = .ok 76 w := by kernel_rfl
theorem sle_run {o : Oper} {w : World} {ρ : Operand → Value} {x z : Operand} (ho : o.op = .slice 46 x none (some z) none) {g n cap j : Nat} {J : Int}
    (hx : ρ x = .slice (some ⟨g, 0, none⟩) n cap) (hz : ρ z = .int .i64 J) (hJ : J = (j : Int)) (h2 : j ≤ cap) : (execOp ρ o).run Try.prog w = .ok (.value (.slice (some ⟨g, 0, none⟩) j cap)) w := by
  subst hJ
  unfold execOp
  simp only [ho, hx, hz, Option.map_some, Option.map_none, Sem.run_bind, run_sliceAt_slice w 46 _ _ _ _ eltEn, run_slice_h w 46 (some ⟨g, 0, none⟩) n cap eltEn _ (j : Int) (by omega) (by omega), sizeEn, Result.andThen_ok, Sem.run_pure, Int.toNat_natCast, sliced, Nat.zero_mul, Option.map_some, Addr.add_mid, Nat.add_zero, ite_self, Nat.sub_zero]
theorem results_tc {P : Program} {fn : Func} {p r : Tmp} {ty : TypeId} (h : fn.results = #[.tmp r, .cell p ty]) (tmps : Array Value) (w : World) (g : Nat) (t : TypeId) (cs : Array Value) (fr : Nat × Nat) (d : TypeDesc) (v : Value)
    (hr : tmps.getD r undef = v) (hp : tmps.getD p undef = .pointer (some ⟨g, 0, none⟩)) (hg : w.heap[g]? = some (.cells cs t fr))
    (hu : P.underlying ty = some d) (hd : (match d with | .struct _ | .array _ _ => true | _ => false) = true) (hi : (P.info? ty).map (·.size) = some cs.size) :
    (results fn tmps).run P w = .ok (.tuple #[v, .agg cs]) w := by
  have hp' : tmps[p]?.getD undef = .pointer (some ⟨g, 0, none⟩) := by simpa using hp
  have hr' : tmps[r]?.getD undef = v := by simpa using hr
  simp [results, h, hp', hr', asAddr, run_loadVar_row w g t ty cs fr d hg hu hd hi]
theorem bbase_no {B : Nat} {K : Bkk} {S : Bsn} (n : Int) (w : World) (h : Bq w B K S) (hn : hasN n S.ba.length = false) :
    Calls Try.prog 8 #[bptr K, .int .i64 n] w fun e w' => e = .returned (Plc 0 0) ∧ Below w.heap.size w w' := by
  obtain ⟨A, hE, hX, hw⟩ := blk1 w #[.int .i64 0, .int .i64 0] 24
  have HS := bhasL_any n A (h.keep hw)
  rw [hn] at HS
  clear h hn
  obtain ⟨b, m, gf, cf, gb, cb, vr⟩ := K
  try dsimp only at *
  go_enter Try.func8, Try.ntmps8
  go_upto_region 1 with fail
  go_upto_region 2 with (go_at_call 22; refine HS.mono ?_; rintro e W ⟨rfl, rfl⟩)
  clear hE
  go_wp2_with (refine st_blk rfl rfl hX rfl rfl info_plc rfl (by simp [Value.oneCell']) ?_; intro W2 hX2 C2)
  exact bodyPost_ret (results_cell_row rfl _ _ _ 24 _ (0, 0) _ rfl hX2 Try.underlying24 rfl info_plc) rfl ⟨rfl, ab_chg hw C2 (Nat.le_refl _)⟩
theorem eo_kindA {α : Type} {E : En α} {e : TypeId} {W : World} {B g : Nat} {v : Value} {l : List α} (h : EO E e W B v l) (hg : v.ownBlock = some g) : kindR W g e := own_kindR h hg
theorem eo_lessA {α : Type} {E : En α} {e : TypeId} {W : World} {B B' : Nat} {v : Value} {l : List α} (h : EO E e W B v l) (hb : B' ≤ B) : EO E e W B' v l := own_less h hb
theorem zero_plG (w : World) : (zeroValue 24).run Try.prog w = .ok (.agg #[.int .i64 0, .int .i64 0]) w := by kernel_rfl
theorem er_take17 {α : Type} {E : En α} {W : World} {q : Option Addr} {n cap : Nat} {l : List α} (h : ER E W (.slice q n cap) l) {m c : Nat} (hm : m ≤ l.length) (hc : m ≤ c) (hcm : c ≤ 9223372036854775807) : ER E W (.slice q m c) (l.take m) := by
  obtain ⟨q', cap', g, off, h1, h2, h3, h4, h5⟩ := h
  injection h1 with e1 e2 e3
  subst e1
  refine ⟨_, _, g, off, by rw [List.length_take, Nat.min_eq_left hm], by rw [List.length_take, Nat.min_eq_left hm]; exact hc, hcm, fun h => ?_, fun j u hu => ?_⟩
  · rw [List.length_take] at h
    exact h4 (by omega)
  · rw [← E.fl_take] at hu
    have hj := (List.getElem?_eq_some_iff.1 hu).1
    rw [List.length_take] at hj
    rw [List.getElem?_take_of_lt (by omega)] at hu
    exact h5 j u hu
theorem gcopied_any (v : Value) (l : List Ent) (w : World) (hv : ER EE w v l) (hl : l.length ≤ 100000) :
    Calls Try.prog 48 #[v] w fun e w' => ∃ v', e = .returned v' ∧ EO EE 63 w' w.heap.size v' l ∧ Below w.heap.size w w' := by
  go_enter Try.func48, Try.ntmps48
  go_wp2_with (at_builtin; refine app_e (E := EE) w rfl rfl Try.underlying46 infoEntB (by show (entA zEnt).size = 76; exact entA_size _) rfl (eo_nil _ _ _ _) rfl hv ?c1 ?c2 (Below.refl _ _) ?_)
  case c1 => rw [List.length_nil]; omega
  case c2 => rw [List.length_nil]; omega
  intro v' W h1 h2 h3
  go_wp2_with fail
  go_ret
  exact ⟨_, rfl, h1, h2⟩
/-- Up to where a batch goes. -/
def gnT (S : Bsn) (i mo : Nat) (cl : Int × Int) : Int × Int := if (lisP S i cl).length ≤ mo then cl else (afW ((lisP S i cl).getD (mo - 1) (0, 0)).1 ((lisP S i cl).getD (mo - 1) (0, 0)).2, afK ((lisP S i cl).getD (mo - 1) (0, 0)).1 ((lisP S i cl).getD (mo - 1) (0, 0)).2)
def gnL (S : Bsn) (i mo : Nat) (cl : Int × Int) : List Ent := entL S (i : Int) (lisP S i cl) (min mo (lisP S i cl).length)
/-- What Next answers: none, or a batch. -/
def gnB (S : Bsn) (ep : Int) (i mo : Nat) : Btc := ⟨ep, (i : Int), (S.ba[i]?).getD (0, 0), gnT S i mo (clsP S i), gnL S i mo (clsP S i)⟩
def gnI (S : Bsn) (ep ln mo : Int) : Bool := decide (1 ≤ ep ∧ 1 ≤ mo ∧ mo ≤ 16) && hasN ln S.ba.length && lmB S.fl && pl ((S.ba[ln.toNat]?).getD (0, 0)).1 ((S.ba[ln.toNat]?).getD (0, 0)).2 (clsP S ln.toNat).1 (clsP S ln.toNat).2
def zBt : Btc := ⟨0, 0, (0, 0), (0, 0), []⟩
set_option maxHeartbeats 1000000 in
theorem gfirst_any {B : Nat} {K : Bkk} {S : Bsn} (i mo : Nat) (cl : Int × Int) (w : World) (h : Bq w B K S) (hi : i < S.ba.length) (h1 : 1 ≤ mo) (h2 : mo ≤ 16) :
    Calls Try.prog 25 #[bptr K, .int .i64 (i : Int), .int .i64 (mo : Int), Plc cl.1 cl.2] w fun e w' => ∃ v, e = .returned (.tuple #[v, Plc (gnT S i mo cl).1 (gnT S i mo cl).2]) ∧ EO EE 63 w' w.heap.size v (gnL S i mo cl) ∧ Below w.heap.size w w' := by
  obtain ⟨A, hE, hX, hw⟩ := blk1 w #[.int .i64 cl.1, .int .i64 cl.2] 24
  obtain ⟨A2, hE2, hX2, hw2⟩ := blk1 A #[.int .i64 0, .int .i64 0] 24
  have hwA := ab_trans hw hw2
  have hXA := hX.keep hw2
  have hs1 : w.heap.size < A.heap.size := hX.lt
  have hok := h.ok
  have HLi := balist_any i cl ((mo : Int) + 1) A2 (h.keep hwA) hi (by omega)
  have HLe : Hid (lisE S i cl ((mo : Int) + 1) = entL S (i : Int) (lisP S i cl) (min (mo + 1) (lisP S i cl).length)) := by
    show _ = _
    unfold lisE lisN
    congr 1
    omega
  have HG : Hid (gnT S i mo cl = if (lisP S i cl).length ≤ mo then cl else (afW ((lisP S i cl).getD (mo - 1) (0, 0)).1 ((lisP S i cl).getD (mo - 1) (0, 0)).2, afK ((lisP S i cl).getD (mo - 1) (0, 0)).1 ((lisP S i cl).getD (mo - 1) (0, 0)).2)) := rfl
  have HL : Hid (gnL S i mo cl = entL S (i : Int) (lisP S i cl) (min mo (lisP S i cl).length)) := rfl
  have HJ : Hid (∀ p ∈ lisP S i cl, J64 p.1 ∧ J64 p.2) := fun p hp => (hok.kk _ (lisP_mem.1 hp).1).1.2
  rw [HLe.out] at HLi
  have h8 : Hid (A2.heap.size = A.heap.size + 1) := by show _ = _; rw [← hE2]; simp
  clear h hok HLe
  generalize lisP S i cl = P at *
  generalize hPn : P.length = pn at *
  obtain ⟨b, m, gf, cf, gb, cb, vr⟩ := K
  obtain ⟨c0, c1⟩ := cl
  try dsimp only at *
  have x0 := hXA.at (i := 0) rfl
  have x1 := hXA.at (i := 1) rfl
  go_enter Try.func25, Try.ntmps25
  go_upto_region 2 with (go_at_call 46; refine HLi.mono ?_; rintro e W ⟨v, rfl, hO, hb⟩; obtain ⟨q, cap, ev⟩ := hO.form; subst ev)
  clear hE hE2 x0 x1
  have hXW := hXA.keep hb
  have hRW := hX2.keep hb
  have hwW := ab_trans hwA hb
  have hel : (entL S (i : Int) P (min (mo + 1) pn)).length = min (mo + 1) pn := entL_len (by omega)
  rw [hel]
  by_cases c : pn ≤ mo
  · have hm : min (mo + 1) pn = pn := by omega
    have hm2 : min mo pn = pn := by omega
    rw [hm] at hO hel ⊢
    rw [hel] at hO
    have hcm : (pn : Int) ≤ (mo : Int) := by omega
    have HO : Hid (∀ V, Below W.heap.size W V → EO EE 63 V w.heap.size (.slice q pn cap) (gnL S i mo (c0, c1)) ∧ Blk V w.heap.size #[.int .i64 c0, .int .i64 c1] 24 ∧ Blk V A.heap.size #[.int .i64 0, .int .i64 0] 24 ∧ Below w.heap.size w V) := fun V hv => ⟨by rw [HL.out, hm2]; exact eo_lessA (hO.keep hv) (by have := hwA.size; omega), hXW.keep hv, hRW.keep hv, ab_trans hwW hv⟩
    have HG2 : Hid (gnT S i mo (c0, c1) = (c0, c1)) := by show _ = _; rw [HG.out, if_pos c]
    clear hO hXW hRW hwW HLi hel hm hm2 hXA hX hX2
    go_upto_region 3 with fail
    have hbd : Below W.heap.size W W.drew := ab_drew (Below.refl _ _)
    refine region_L 3 (S := fun w' => Below W.heap.size W w') (by kernel_rfl) hbd (fun hHeld => ?_)
    clear hbd
    generalize W.drew = W2 at *
    refine takeP (i := 0) (some 23) (by rfl) rfl rfl (by kernel_rfl) (by kernel_rfl) (by kernel_rfl) (fun _ _ _ h => h) (by rfl) (fun w => by go_simp; try rfl) hHeld ?_
    go_frame
    refine takeL (i := 1) [3] (some 24) (by rfl) rfl rfl (by kernel_rfl) (by kernel_rfl) (by kernel_rfl) (by kernel_rfl) (fun _ _ _ h => h) (by rfl) (fun w hSw => by (try dsimp only at hSw); (obtain ⟨hO1, hX1, hR1, hb1⟩ := HO.out _ hSw; have q0 := hX1.at (i := 0) rfl; have q1 := hX1.at (i := 1) rfl; go_simp; try rfl)) hHeld ?_
    go_frame
    refine takeP (i := 2) (some 8) (by rfl) rfl rfl (by kernel_rfl) (by kernel_rfl) (by kernel_rfl) (fun _ _ _ h => h) (by rfl) (fun w => by go_simp; try rfl) hHeld ?_
    go_frame
    refine anyL_ready (rs := [3]) (by kernel_rfl) (by simp) (AllL.last rfl (by kernel_rfl) (fun K hK => ?_))
    rw [if_pos (by rfl)]
    obtain ⟨hO1, hX1, hR1, hb1⟩ := HO.out _ hHeld
    refine stW none rfl rfl hR1 rfl rfl info_plc rfl (by simp [Value.oneCell']) fun W5 hX5 C5 => ?_
    have hb5 := ab_chg hb1 C5 (by omega)
    have hO5 : EO EE 63 W5 w.heap.size _ _ := own_at hO1 (fun g hg => C5.other g (fun e => absurd ((eo_kindA hO1 hg).uniq (e ▸ hR1.kindR)) (by decide)))
    refine hK.out _ _ ?_
    clear hK K
    try go_frame
    refine anyL_done (by kernel_rfl) ?_
    go_wp2_with fail
    exact bodyPost_ret (results_tc rfl _ _ _ 24 _ (0, 0) _ _ rfl rfl hX5 Try.underlying24 rfl info_plc) rfl ⟨_, by rw [HG2.out]; rfl, hO5, hb5⟩
  · have hm : min (mo + 1) pn = mo + 1 := by omega
    have hm2 : min mo pn = mo := by omega
    rw [hm] at hO hel ⊢
    rw [hel] at hO
    have hcm : ¬ ((mo : Int) + 1 ≤ (mo : Int)) := by omega
    obtain ⟨j, rfl⟩ : ∃ j, mo = j + 1 := ⟨mo - 1, by omega⟩
    obtain ⟨p, hp⟩ : ∃ p, P[j]? = some p := ⟨P[j]'(by omega), List.getElem?_eq_getElem (by omega)⟩
    have hpJ := HJ.out p (List.mem_of_getElem? hp)
    have hpd : P.getD j (0, 0) = p := by rw [List.getD_eq_getElem?_getD, hp]; rfl
    obtain ⟨g, cap', eg⟩ := EO.at0 hO (by omega)
    rw [hel] at eg
    injection eg with e1 _ e3
    subst e1 e3
    obtain ⟨q', cap'', g', off', eq', hc1, hc2, hpp, hr⟩ := hO.er.at
    rw [hel] at eq'
    injection eq' with e1 _ e3
    subst e1 e3
    obtain ⟨e4, hlg⟩ := hpp (by omega)
    injection e4 with e4
    injection e4 with e5 e6 _
    subst e5 e6
    have hx : (entL S (i : Int) P (j + 1 + 1))[j]? = some (p, S.cv ((i : Int), p)) := entL_at (by omega) hp
    have z0 := hr j _ hx 0 (.int .i64 p.1) rfl
    have z1 := hr j _ hx 1 (.int .i64 p.2) rfl
    rw [Nat.add_zero, Nat.zero_add, show EE.k = 76 from rfl] at z0
    rw [Nat.zero_add, show EE.k = 76 from rfl] at z1
    have HG2 : Hid (gnT S i (j + 1) (c0, c1) = (afW p.1 p.2, afK p.1 p.2)) := by show _ = _; rw [HG.out, if_neg c, Nat.add_sub_cancel, hpd]
    have HA := after_any p.1 p.2
    have HTk : Hid ((entL S (i : Int) P (j + 1 + 1)).take (j + 1) = gnL S i (j + 1) (c0, c1)) := by
      show _ = _
      rw [HL.out, hm2]
      unfold entL
      rw [← List.map_take, List.take_take, Nat.min_eq_left (by omega)]
    have hcc : j + 1 + 1 ≤ cap := by rw [hel] at hc1; exact hc1
    have HER : Hid (ER EE W (.slice (some ⟨g, 0, none⟩) (j + 1 + 1) cap) (entL S (i : Int) P (j + 1 + 1))) := hO.er
    have HR : Hid (Blk W A.heap.size #[.int .i64 0, .int .i64 0] 24 ∧ Below w.heap.size w W) := ⟨hRW, hwW⟩
    have hjj : (j : Int) < ((j + 1 + 1 : Nat) : Int) := by omega
    unfold J64 at hpJ
    clear hXW hRW hwW HLi hm hm2 hXA hX hX2 hr hx hpp hp hpd hO HJ HL
    obtain ⟨p0, p1⟩ := p
    try dsimp only at z0 z1 HA hpJ HG2
    go_upto_region 5 with (first
      | (go_at_call 47; refine (HA _ hpJ.1.1 hpJ.1.2 hpJ.2.1 hpJ.2.2).mono ?_; rintro e W3 ⟨rfl, b3⟩)
      | (refine al_blk rfl rfl #[.int .i64 0, .int .i64 0] (zero_plG _) ?_; intro W4 e4 hX4 b4)
      | (refine st_blk rfl rfl hX4 rfl rfl info_plc rfl (by simp [Value.oneCell']) ?_; intro W5 hX5 C5))
    have hX6 := hX5
    have b35 := ab_trans b3 (ab_chg b4 C5 (Nat.le_refl _))
    have HE5 : Hid (∀ V, Below W5.heap.size W5 V → ER EE V (.slice (some ⟨g, 0, none⟩) (j + 1) cap) (gnL S i (j + 1) (c0, c1)) ∧ Blk V W3.heap.size #[.int .i64 (afW p0 p1), .int .i64 (afK p0 p1)] 24 ∧ Blk V A.heap.size #[.int .i64 0, .int .i64 0] 24 ∧ Below w.heap.size w V) := fun V hv => ⟨by rw [← HTk.out]; exact er_take17 (HER.out.keep (ab_trans b35 hv)) (by omega) (by omega) hc2, hX6.keep hv, (HR.out.1.keep b35).keep hv, ab_trans (ab_trans HR.out.2 b35) hv⟩
    have hgl : (gnL S i (j + 1) (c0, c1)).length ≤ 100000 := by rw [← HTk.out, List.length_take]; omega
    clear hX4 e4 hX5 hX6 C5 b3 b4 b35 HA z0 z1
    have hbd : Below W5.heap.size W5 W5.drew := ab_drew (Below.refl _ _)
    refine region_L 6 (S := fun w' => Below W5.heap.size W5 w') (by kernel_rfl) hbd (fun hHeld => ?_)
    clear hbd
    have hs0 : w.heap.size ≤ W5.heap.size := (HE5.out W5 (Below.refl _ _)).2.2.2.size
    generalize W5.drew = V at *
    refine takeP (i := 0) (some 35) (by rfl) rfl rfl (by kernel_rfl) (by kernel_rfl) (by kernel_rfl) (fun _ _ _ h => h) (by rfl) (fun w => by go_simp; try rfl) hHeld ?_
    go_frame
    refine takeP (i := 1) (some 36) (by rfl) rfl rfl (by kernel_rfl) (by kernel_rfl) (by kernel_rfl) (fun _ _ _ h => h) (by rfl) (fun w => by go_simp; try rfl) hHeld ?_
    go_frame
    refine takeP (i := 2) (some 37) (by rfl) rfl rfl (by kernel_rfl) (by kernel_rfl) (by kernel_rfl) (fun _ _ _ h => h) (by rfl) (fun w => by exact sle_run (j := j + 1) rfl rfl rfl rfl (Nat.le_of_succ_le hcc)) hHeld ?_
    go_frame
    refine takeL (i := 4) [6] (some 39) (by rfl) rfl rfl (by kernel_rfl) (by kernel_rfl) (by kernel_rfl) (by kernel_rfl) (fun _ _ _ h => h) (by rfl) (fun w hSw => by (try dsimp only at hSw); (obtain ⟨hO1, hX1, hR1, hb1⟩ := HE5.out _ hSw; have q0 := hX1.at (i := 0) rfl; have q1 := hX1.at (i := 1) rfl; go_simp; try rfl)) hHeld ?_
    go_frame
    have HCo := gcopied_any _ _ V (HE5.out _ hHeld).1 hgl
    refine anyL_ready (rs := [3]) (by kernel_rfl) (by simp) (AllL.cons rfl (fun K hK => ?_) AllL.nil)
    go_simp
    refine HCo.mono ?_
    rintro e W6 ⟨v6, rfl, hO6, b6⟩
    show K _ _
    have hs6 := hHeld.size
    have hb6 := ab_trans hHeld b6
    refine hK.out _ _ hb6 (fun hHeld => ?_)
    clear hK K HCo
    try go_frame
    refine takeP (i := 5) (some 8) (by rfl) rfl rfl (by kernel_rfl) (by kernel_rfl) (by kernel_rfl) (fun _ _ _ h => h) (by rfl) (fun w => by go_simp; try rfl) hHeld ?_
    go_frame
    refine anyL_ready (rs := [6]) (by kernel_rfl) (by simp) (AllL.last rfl (by kernel_rfl) (fun K hK => ?_))
    rw [if_pos (by rfl)]
    obtain ⟨-, -, hR1, hb1⟩ := HE5.out _ hHeld
    refine stW none rfl rfl hR1 rfl rfl info_plc rfl (by simp [Value.oneCell']) fun W7 hX7 C7 => ?_
    have hb7 := ab_chg hb1 C7 (by omega)
    have hO7 : EO EE 63 W7 w.heap.size v6 (gnL S i (j + 1) (c0, c1)) := own_at (eo_lessA hO6 (by omega)) (fun g hg => C7.other g (fun e => absurd ((eo_kindA hO6 hg).uniq (e ▸ hR1.kindR)) (by decide)))
    refine hK.out _ _ ?_
    clear hK K
    try go_frame
    refine anyL_done (by kernel_rfl) ?_
    go_wp2_with fail
    exact bodyPost_ret (results_tc rfl _ _ _ 24 _ (0, 0) _ _ rfl rfl hX7 Try.underlying24 rfl info_plc) rfl ⟨_, by rw [HG2.out]; rfl, hO7, hb7⟩
theorem zero_bt (w : World) : (zeroValue 48).run Try.prog w = .ok (.agg (btA zBt (.slice none 0 0))) w := by kernel_rfl
theorem info_bt (b : Btc) (q : Option Addr) (n c : Nat) : (Try.prog.info? 48).map (·.size) = some (btA b (.slice q n c)).size := by kernel_rfl
theorem bt_one (b : Btc) (q : Option Addr) (n c : Nat) : (btA b (.slice q n c)).all (·.oneCell') = true := by simp [btA, Value.oneCell']
theorem built_bt0 : Try.prog.built 48 [] = some (btA zBt (.slice none 0 0)) := by kernel_rfl
theorem built_bt (ep ln f0 f1 t0 t1 : Int) (q : Option Addr) (n c : Nat) : Try.prog.built 48 [(0, .int .i64 ep), (1, .int .i64 ln), (2, .agg #[.int .i64 f0, .int .i64 f1]), (3, .agg #[.int .i64 t0, .int .i64 t1]), (4, .slice q n c)] = some #[.int .i64 ep, .int .i64 ln, .int .i64 f0, .int .i64 f1, .int .i64 t0, .int .i64 t1, .slice q n c] := by kernel_rfl
/-- A batch that lies somewhere, its entries its own. -/
def NxE (B : Nat) (e : Ending) (w' : World) (b : Btc) (ok : Bool) : Prop := ∃ v, e = .returned (.tuple #[.agg (btA b v), .bool ok]) ∧ EO EE 63 w' B v b.en
set_option maxHeartbeats 2000000 in
theorem gnext_no {B : Nat} {K : Bkk} {S : Bsn} (ep ln mo : Int) (w : World) (h : Bq w B K S) (hn : gnI S ep ln mo = false) :
    Calls Try.prog 9 #[bptr K, .int .i64 ep, .int .i64 ln, .int .i64 mo] w fun e w' => NxE w.heap.size e w' zBt false ∧ Below w.heap.size w w' := by
  have HEnd : Hid (∀ V, NxE w.heap.size (.returned (.tuple #[.agg (btA zBt (.slice none 0 0)), .bool false])) V zBt false) := fun V => ⟨_, rfl, eo_nil _ _ _ _⟩
  have HB : Hid (∀ V, Below w.heap.size w V → Bq V B K S) := fun V hb => h.keep hb
  by_cases c0 : 1 ≤ ep ∧ 1 ≤ mo ∧ mo ≤ 16
  · have c1 : ¬ ep < 1 := by omega
    have c2 : ¬ mo < 1 := by omega
    have c3 : ¬ 16 < mo := by omega
    have HN : Hid (gnI S ep ln mo = (hasN ln S.ba.length && lmB S.fl && pl ((S.ba[ln.toNat]?).getD (0, 0)).1 ((S.ba[ln.toNat]?).getD (0, 0)).2 (clsP S ln.toNat).1 (clsP S ln.toNat).2)) := by
      show _ = _
      unfold gnI
      rw [decide_eq_true c0, Bool.true_and]
    have HN2 : Hid (gnI S ep ln mo = false) := hn
    clear c0 hn
    cases hl : hasN ln S.ba.length
    · have HBa := fun (V : World) (hb : Below w.heap.size w V) => bbase_no ln V (HB.out V hb) hl
      have HCl := fun (V : World) (hb : Below w.heap.size w V) => baclosed_no ln V (HB.out V hb) hl
      clear h hl
      go_enter Try.func9, Try.ntmps9
      go_upto_region 3 with (first
        | (refine al_blk rfl rfl (btA zBt (.slice none 0 0)) (zero_bt _) ?_; intro W1 e1 hX1 b1; clear e1))
      go_upto_region 4 with (first
        | (go_at_call 8; refine (HBa _ b1).mono ?_; rintro e W2 ⟨rfl, b2⟩)
        | (refine al_blk rfl rfl #[.int .i64 0, .int .i64 0] (zero_plG _) ?_; intro W3 e3 hX3 b3; clear e3)
        | (refine st_blk rfl rfl hX3 rfl rfl info_plc rfl (by simp [Value.oneCell']) ?_; intro W4 hX4 C4))
      have b4 := ab_trans b1 (ab_trans b2 (ab_chg b3 C4 (Nat.le_refl _)))
      have hX1' := (hX1.keep (ab_trans b2 b3)).chg C4 (fun e => by have h1 := hX1.lt; have h2 := b2.size; have h3 : w.heap.size = W2.heap.size := e; omega)
      clear hX3 C4 b2 b3 b1 hX1 HBa
      go_upto_region 5 with (first
        | (go_at_call 23; refine (HCl _ b4).mono ?_; rintro e W5 ⟨rfl, b5⟩)
        | (refine al_blk rfl rfl #[.int .i64 0, .int .i64 0] (zero_plG _) ?_; intro W6 e6 hX6 b6; clear e6)
        | (refine st_blk rfl rfl hX6 rfl rfl info_plc rfl (by simp [Value.oneCell']) ?_; intro W7 hX7 C7))
      have b7 := ab_trans b4 (ab_trans b5 (ab_chg b6 C7 (Nat.le_refl _)))
      have hX8 := (hX1'.keep (ab_trans b5 b6)).chg C7 (fun e => by have h1 := hX1'.lt; have h2 := b5.size; have h3 : w.heap.size = W5.heap.size := e; omega)
      clear hX6 C7 b5 b6 b4 hX1' HCl
      go_wp2_with (refine st_blk rfl rfl hX8 rfl rfl (info_bt zBt none 0 0) rfl (bt_one zBt none 0 0) ?_; intro W9 hX9 C9)
      exact bodyPost_ret (results_c2 rfl _ _ _ 48 _ (0, 0) _ (.bool false) rfl rfl hX9 Try.underlying48 rfl (info_bt zBt none 0 0)) rfl ⟨HEnd.out _, ab_chg b7 C9 (Nat.le_refl _)⟩
    · obtain ⟨i, rfl, hi⟩ := hasN_no hl
      rw [hl, Bool.true_and, Int.toNat_natCast] at HN
      obtain ⟨p, hp⟩ : ∃ p, S.ba[i]? = some p := ⟨S.ba[i], List.getElem?_eq_getElem hi⟩
      rw [hp, Option.getD_some] at HN
      have HBa := fun (V : World) (hb : Below w.heap.size w V) => bbase_at i p V (HB.out V hb) hp
      have HCl := fun (V : World) (hb : Below w.heap.size w V) => baclosed_at i V (HB.out V hb) hi
      clear h hl hp hi
      generalize clsP S i = q at *
      obtain ⟨p0, p1⟩ := p
      obtain ⟨q0, q1⟩ := q
      try dsimp only at HBa HCl HN
      cases hm : lmB S.fl
      · rw [hm] at HCl
        clear hm
        go_enter Try.func9, Try.ntmps9
        go_upto_region 3 with (first
          | (refine al_blk rfl rfl (btA zBt (.slice none 0 0)) (zero_bt _) ?_; intro W1 e1 hX1 b1; clear e1))
        go_upto_region 4 with (first
          | (go_at_call 8; refine (HBa _ b1).mono ?_; rintro e W2 ⟨rfl, b2⟩)
          | (refine al_blk rfl rfl #[.int .i64 0, .int .i64 0] (zero_plG _) ?_; intro W3 e3 hX3 b3; clear e3)
          | (refine st_blk rfl rfl hX3 rfl (vs := #[.int .i64 p0, .int .i64 p1]) rfl info_plc rfl (by simp [Value.oneCell']) ?_; intro W4 hX4 C4))
        have b4 := ab_trans b1 (ab_trans b2 (ab_chg b3 C4 (Nat.le_refl _)))
        have hX1' := (hX1.keep (ab_trans b2 b3)).chg C4 (fun e => by have h1 := hX1.lt; have h2 := b2.size; have h3 : w.heap.size = W2.heap.size := e; omega)
        clear hX3 C4 b2 b3 b1 hX1 HBa
        go_upto_region 5 with (first
          | (go_at_call 23; refine (HCl _ b4).mono ?_; rintro e W5 ⟨rfl, b5⟩)
          | (refine al_blk rfl rfl #[.int .i64 0, .int .i64 0] (zero_plG _) ?_; intro W6 e6 hX6 b6; clear e6)
          | (refine st_blk rfl rfl hX6 rfl (vs := #[.int .i64 q0, .int .i64 q1]) rfl info_plc rfl (by simp [Value.oneCell']) ?_; intro W7 hX7 C7))
        have b7 := ab_trans b4 (ab_trans b5 (ab_chg b6 C7 (Nat.le_refl _)))
        have hX8 := (hX1'.keep (ab_trans b5 b6)).chg C7 (fun e => by have h1 := hX1'.lt; have h2 := b5.size; have h3 : w.heap.size = W5.heap.size := e; omega)
        have hX9 := (hX4.keep (ab_trans b5 b6)).chg C7 (fun e => by have h1 := hX4.lt; have h2 := b5.size; have h3 : W2.heap.size = W5.heap.size := e; omega)
        clear hX6 C7 b5 b6 b4 hX1' HCl hX4
        go_wp2_with (refine st_blk rfl rfl hX8 rfl rfl (info_bt zBt none 0 0) rfl (bt_one zBt none 0 0) ?_; intro W10 hX10 C10)
        exact bodyPost_ret (results_c2 rfl _ _ _ 48 _ (0, 0) _ (.bool false) rfl rfl hX10 Try.underlying48 rfl (info_bt zBt none 0 0)) rfl ⟨HEnd.out _, ab_chg b7 C10 (Nat.le_refl _)⟩
      · rw [hm] at HCl
        have hpl : pl p0 p1 q0 q1 = false := by have h1 := HN.out; rw [HN2.out, hm, Bool.true_and] at h1; exact h1.symm
        have HLs : ∀ W, Calls Try.prog 24 #[Plc p0 p1, Plc q0 q1] W fun e w' => e = .returned (.bool false) ∧ Below W.heap.size W w' := fun W => by have := pless_any p0 p1 q0 q1 W; rw [hpl] at this; exact this
        clear hm hpl
        go_enter Try.func9, Try.ntmps9
        go_upto_region 3 with (first
          | (refine al_blk rfl rfl (btA zBt (.slice none 0 0)) (zero_bt _) ?_; intro W1 e1 hX1 b1; clear e1))
        go_upto_region 4 with (first
          | (go_at_call 8; refine (HBa _ b1).mono ?_; rintro e W2 ⟨rfl, b2⟩)
          | (refine al_blk rfl rfl #[.int .i64 0, .int .i64 0] (zero_plG _) ?_; intro W3 e3 hX3 b3; clear e3)
          | (refine st_blk rfl rfl hX3 rfl (vs := #[.int .i64 p0, .int .i64 p1]) rfl info_plc rfl (by simp [Value.oneCell']) ?_; intro W4 hX4 C4))
        have b4 := ab_trans b1 (ab_trans b2 (ab_chg b3 C4 (Nat.le_refl _)))
        have hX1' := (hX1.keep (ab_trans b2 b3)).chg C4 (fun e => by have h1 := hX1.lt; have h2 := b2.size; have h3 : w.heap.size = W2.heap.size := e; omega)
        clear hX3 C4 b2 b3 b1 hX1 HBa
        go_upto_region 5 with (first
          | (go_at_call 23; refine (HCl _ b4).mono ?_; rintro e W5 ⟨rfl, b5⟩)
          | (refine al_blk rfl rfl #[.int .i64 0, .int .i64 0] (zero_plG _) ?_; intro W6 e6 hX6 b6; clear e6)
          | (refine st_blk rfl rfl hX6 rfl (vs := #[.int .i64 q0, .int .i64 q1]) rfl info_plc rfl (by simp [Value.oneCell']) ?_; intro W7 hX7 C7))
        have b7 := ab_trans b4 (ab_trans b5 (ab_chg b6 C7 (Nat.le_refl _)))
        have hX8 := (hX1'.keep (ab_trans b5 b6)).chg C7 (fun e => by have h1 := hX1'.lt; have h2 := b5.size; have h3 : w.heap.size = W5.heap.size := e; omega)
        have hX9 := (hX4.keep (ab_trans b5 b6)).chg C7 (fun e => by have h1 := hX4.lt; have h2 := b5.size; have h3 : W2.heap.size = W5.heap.size := e; omega)
        clear hX6 C7 b5 b6 b4 hX1' HCl hX4
        have r0 := hX9.at (i := 0) rfl
        have r1 := hX9.at (i := 1) rfl
        have s0 := hX7.at (i := 0) rfl
        have s1 := hX7.at (i := 1) rfl
        dsimp only [List.size_toArray, List.getElem_toArray, List.getElem_cons_zero, List.getElem_cons_succ] at r0 r1 s0 s1
        clear hX9 hX7
        go_wp2_with (first
          | (go_at_call 24; refine (HLs _).mono ?_; rintro e W9 ⟨rfl, b9⟩; have hX8' := hX8.keep b9; have b79 := ab_trans b7 b9; clear r0 r1 s0 s1)
          | (refine st_blk rfl rfl hX8' rfl rfl (info_bt zBt none 0 0) rfl (bt_one zBt none 0 0) ?_; intro W10 hX10 C10))
        exact bodyPost_ret (results_c2 rfl _ _ _ 48 _ (0, 0) _ (.bool false) rfl rfl hX10 Try.underlying48 rfl (info_bt zBt none 0 0)) rfl ⟨HEnd.out _, ab_chg b79 C10 (Nat.le_refl _)⟩
  · have c4 : ep < 1 ∨ mo < 1 ∨ 16 < mo := by omega
    clear c0 h hn
    rcases c4 with c1 | c1
    · go_enter Try.func9, Try.ntmps9
      go_wp2_with (first
        | (refine al_blk rfl rfl (btA zBt (.slice none 0 0)) (zero_bt _) ?_; intro W1 e1 hX1 b1; clear e1)
        | (refine st_blk rfl rfl hX1 rfl rfl (info_bt zBt none 0 0) rfl (bt_one zBt none 0 0) ?_; intro W2 hX2 C2))
      exact bodyPost_ret (results_c2 rfl _ _ _ 48 _ (0, 0) _ (.bool false) rfl rfl hX2 Try.underlying48 rfl (info_bt zBt none 0 0)) rfl ⟨HEnd.out _, ab_chg b1 C2 (Nat.le_refl _)⟩
    · by_cases c0 : ep < 1
      · go_enter Try.func9, Try.ntmps9
        go_wp2_with (first
          | (refine al_blk rfl rfl (btA zBt (.slice none 0 0)) (zero_bt _) ?_; intro W1 e1 hX1 b1; clear e1)
          | (refine st_blk rfl rfl hX1 rfl rfl (info_bt zBt none 0 0) rfl (bt_one zBt none 0 0) ?_; intro W2 hX2 C2))
        exact bodyPost_ret (results_c2 rfl _ _ _ 48 _ (0, 0) _ (.bool false) rfl rfl hX2 Try.underlying48 rfl (info_bt zBt none 0 0)) rfl ⟨HEnd.out _, ab_chg b1 C2 (Nat.le_refl _)⟩
      · rcases c1 with c1 | c1
        · go_enter Try.func9, Try.ntmps9
          go_wp2_with (first
            | (refine al_blk rfl rfl (btA zBt (.slice none 0 0)) (zero_bt _) ?_; intro W1 e1 hX1 b1; clear e1)
            | (refine st_blk rfl rfl hX1 rfl rfl (info_bt zBt none 0 0) rfl (bt_one zBt none 0 0) ?_; intro W2 hX2 C2))
          exact bodyPost_ret (results_c2 rfl _ _ _ 48 _ (0, 0) _ (.bool false) rfl rfl hX2 Try.underlying48 rfl (info_bt zBt none 0 0)) rfl ⟨HEnd.out _, ab_chg b1 C2 (Nat.le_refl _)⟩
        · have c2 : ¬ mo < 1 := by omega
          go_enter Try.func9, Try.ntmps9
          go_wp2_with (first
            | (refine al_blk rfl rfl (btA zBt (.slice none 0 0)) (zero_bt _) ?_; intro W1 e1 hX1 b1; clear e1)
            | (refine st_blk rfl rfl hX1 rfl rfl (info_bt zBt none 0 0) rfl (bt_one zBt none 0 0) ?_; intro W2 hX2 C2))
          exact bodyPost_ret (results_c2 rfl _ _ _ 48 _ (0, 0) _ (.bool false) rfl rfl hX2 Try.underlying48 rfl (info_bt zBt none 0 0)) rfl ⟨HEnd.out _, ab_chg b1 C2 (Nat.le_refl _)⟩
set_option maxHeartbeats 2000000 in
theorem gnext_yes {B : Nat} {K : Bkk} {S : Bsn} (ep : Int) (i mo : Nat) (w : World) (h : Bq w B K S) (hn : gnI S ep (i : Int) (mo : Int) = true) :
    Calls Try.prog 9 #[bptr K, .int .i64 ep, .int .i64 (i : Int), .int .i64 (mo : Int)] w fun e w' => NxE w.heap.size e w' (gnB S ep i mo) true ∧ Below w.heap.size w w' := by
  have HB : Hid (∀ V, Below w.heap.size w V → Bq V B K S) := fun V hb => h.keep hb
  unfold gnI at hn
  rw [Bool.and_eq_true, Bool.and_eq_true, Bool.and_eq_true, Int.toNat_natCast] at hn
  obtain ⟨⟨⟨c0, hl⟩, hm⟩, hpl⟩ := hn
  have c0 := of_decide_eq_true c0
  have c1 : ¬ ep < 1 := by omega
  have c2 : ¬ (mo : Int) < 1 := by omega
  have c3 : ¬ 16 < (mo : Int) := by omega
  have hi : i < S.ba.length := by have := of_decide_eq_true hl; omega
  obtain ⟨p, hp⟩ : ∃ p, S.ba[i]? = some p := ⟨S.ba[i], List.getElem?_eq_getElem hi⟩
  rw [hp, Option.getD_some] at hpl
  have HBa := fun (V : World) (hb : Below w.heap.size w V) => bbase_at i p V (HB.out V hb) hp
  have HCl := fun (V : World) (hb : Below w.heap.size w V) => baclosed_at i V (HB.out V hb) hi
  have HFi := fun (V : World) (hb : Below w.heap.size w V) => gfirst_any i mo (clsP S i) V (HB.out V hb) hi (by omega) (by omega)
  have HGb : Hid (gnB S ep i mo = ⟨ep, (i : Int), p, gnT S i mo (clsP S i), gnL S i mo (clsP S i)⟩) := by show _ = _; unfold gnB; rw [hp]; rfl
  rw [hm] at HCl
  clear h hl hp hi c0 hm
  generalize clsP S i = q at *
  generalize gnT S i mo q = tt at *
  generalize gnL S i mo q = L at *
  obtain ⟨p0, p1⟩ := p
  obtain ⟨q0, q1⟩ := q
  obtain ⟨t0, t1⟩ := tt
  try dsimp only at HBa HCl HFi hpl HGb
  have HLs : ∀ W, Calls Try.prog 24 #[Plc p0 p1, Plc q0 q1] W fun e w' => e = .returned (.bool true) ∧ Below W.heap.size W w' := fun W => by have := pless_any p0 p1 q0 q1 W; rw [hpl] at this; exact this
  clear hpl
  go_enter Try.func9, Try.ntmps9
  go_upto_region 3 with (first
    | (refine al_blk rfl rfl (btA zBt (.slice none 0 0)) (zero_bt _) ?_; intro W1 e1 hX1 b1; clear e1))
  go_upto_region 4 with (first
    | (go_at_call 8; refine (HBa _ b1).mono ?_; rintro e W2 ⟨rfl, b2⟩)
    | (refine al_blk rfl rfl #[.int .i64 0, .int .i64 0] (zero_plG _) ?_; intro W3 e3 hX3 b3; clear e3)
    | (refine st_blk rfl rfl hX3 rfl (vs := #[.int .i64 p0, .int .i64 p1]) rfl info_plc rfl (by simp [Value.oneCell']) ?_; intro W4 hX4 C4))
  have b4 := ab_trans b1 (ab_trans b2 (ab_chg b3 C4 (Nat.le_refl _)))
  have hX1' := (hX1.keep (ab_trans b2 b3)).chg C4 (fun e => by have h1 := hX1.lt; have h2 := b2.size; have h3 : w.heap.size = W2.heap.size := e; omega)
  clear hX3 C4 b2 b3 b1 hX1 HBa
  go_upto_region 5 with (first
    | (go_at_call 23; refine (HCl _ b4).mono ?_; rintro e W5 ⟨rfl, b5⟩)
    | (refine al_blk rfl rfl #[.int .i64 0, .int .i64 0] (zero_plG _) ?_; intro W6 e6 hX6 b6; clear e6)
    | (refine st_blk rfl rfl hX6 rfl (vs := #[.int .i64 q0, .int .i64 q1]) rfl info_plc rfl (by simp [Value.oneCell']) ?_; intro W7 hX7 C7))
  have b7 := ab_trans b4 (ab_trans b5 (ab_chg b6 C7 (Nat.le_refl _)))
  have hX8 := (hX1'.keep (ab_trans b5 b6)).chg C7 (fun e => by have h1 := hX1'.lt; have h2 := b5.size; have h3 : w.heap.size = W5.heap.size := e; omega)
  have hX9 := (hX4.keep (ab_trans b5 b6)).chg C7 (fun e => by have h1 := hX4.lt; have h2 := b5.size; have h3 : W2.heap.size = W5.heap.size := e; omega)
  clear hX6 C7 b5 b6 b4 hX1' HCl hX4
  have r0 := hX9.at (i := 0) rfl
  have r1 := hX9.at (i := 1) rfl
  have s0 := hX7.at (i := 0) rfl
  have s1 := hX7.at (i := 1) rfl
  dsimp only [List.size_toArray, List.getElem_toArray, List.getElem_cons_zero, List.getElem_cons_succ] at r0 r1 s0 s1
  have l9 := hX9.lt
  have l7 := hX7.lt
  go_upto_region 7 with (first
    | (go_at_call 24; refine (HLs _).mono ?_; rintro e W9 ⟨rfl, b9⟩))
  have b79 := ab_trans b7 b9
  have hXa := hX8.keep b9
  have hXp := hX9.keep b9
  have hXq := hX7.keep b9
  have u0 := hXq.at (i := 0) rfl
  have u1 := hXq.at (i := 1) rfl
  dsimp only [List.size_toArray, List.getElem_toArray, List.getElem_cons_zero, List.getElem_cons_succ] at u0 u1
  have l8 := hX8.lt
  have hs79 : w.heap.size < W9.heap.size := Nat.lt_of_lt_of_le l8 b9.size
  clear r0 r1 s0 s1 hX9 hX7 hX8 b7 HLs
  go_upto_region 8 with (first
    | (go_at_call 25; refine (HFi _ b79).mono ?_; rintro e W11 ⟨v, rfl, hO, b11⟩; obtain ⟨qv, cv, ev⟩ := hO.form; subst ev)
    | (refine al_blk rfl rfl #[.int .i64 0, .int .i64 0] (zero_plG _) ?_; intro W12 e12 hX12 b12; clear e12)
    | (refine st_blk rfl rfl hX12 rfl (vs := #[.int .i64 t0, .int .i64 t1]) rfl info_plc rfl (by simp [Value.oneCell']) ?_; intro W13 hX13 C13))
  have b13 : Below W9.heap.size W9 W13 := ab_trans b11 (ab_chg b12 C13 (Nat.le_refl _))
  have hXa3 := hXa.keep b13
  have hXp3 := hXp.keep b13
  have hO3 : EO EE 63 W13 W9.heap.size (.slice qv L.length cv) L := own_at (hO.keep b12) (fun g hg => C13.other g (fun e => by have := (World.ownsRow.lt hO g hg).2; omega))
  have r0 := hXp3.at (i := 0) rfl
  have r1 := hXp3.at (i := 1) rfl
  have s0 := hX13.at (i := 0) rfl
  have s1 := hX13.at (i := 1) rfl
  dsimp only [List.size_toArray, List.getElem_toArray, List.getElem_cons_zero, List.getElem_cons_succ] at r0 r1 s0 s1
  have b93 := ab_trans b79 b13
  clear u0 u1 hXp hXq hXa hO b11 b12 C13 hX12 HFi b9 b13
  have hs9 := b79.size
  generalize hLn : L.length = ln at *
  go_wp2_with (refine st_blk rfl rfl hXa3 rfl (vs := btA ⟨ep, (i : Int), (p0, p1), (t0, t1), L⟩ (.slice qv ln cv)) rfl (info_bt ⟨ep, (i : Int), (p0, p1), (t0, t1), L⟩ qv ln cv) rfl (bt_one ⟨ep, (i : Int), (p0, p1), (t0, t1), L⟩ qv ln cv) ?_; intro W14 hX14 C14)
  have hO4 : EO EE 63 W14 w.heap.size (.slice qv ln cv) L := own_at (eo_lessA hO3 hs9) (fun g hg => C14.other g (fun e => by have := (World.ownsRow.lt hO3 g hg).1; omega))
  exact bodyPost_ret (results_c2 rfl _ _ _ 48 _ (0, 0) _ (.bool true) rfl rfl hX14 Try.underlying48 rfl (info_bt ⟨ep, (i : Int), (p0, p1), (t0, t1), L⟩ qv ln cv)) rfl ⟨⟨_, by rw [HGb.out], by rw [HGb.out]; exact hO4⟩, ab_chg b93 C14 (Nat.le_refl _)⟩
end Go.Proofs.Ytogbhiklhcibdaa
namespace Go.Proofs.Ytogbhiklhcibdaa
open Go.RowKit Go.Maps
set_option linter.unusedVariables false
set_option maxRecDepth 100000

theorem raS_same (S : Bsn) (p : Int × Int) : ∀ k, (raS S p k).res = S.res ∧ (raS S p k).sh = S.sh
  | 0 => ⟨rfl, rfl⟩
  | k + 1 => raS_same S p k
theorem bs17_ba {r mark : Int} {base : Int × Int} {ops : List Op5} (h : Okb (bs17 r mark base ops)) : (bs17 r mark base ops).ba.length = 2 := by
  have hFk := fd_kept (S := newBsn 1 [r] 2 1024) (i := 0) (la := (ops.length : Int) + 1) (cut := [lstP, lstP]) (fdL_form ops mark) (by show 0 < 1; omega)
  have h1 := h.bl
  obtain ⟨h2, h3⟩ := raS_same (bf17 r mark ops) base 2
  have e1 : (bs17 r mark base ops).res = [r] := h2.trans hFk.res
  have e2 : (bs17 r mark base ops).sh = 2 := h3.trans hFk.sh
  rw [e1, e2] at h1
  have h4 : (([r] : List Int).length : Int) * 2 = 2 := by rfl
  omega
/-- What Next answers, whatever is asked of a lane that is there. -/
def gnX (S : Bsn) (ep : Int) (i mo : Nat) : Btc := if gnI S ep (i : Int) (mo : Int) = true then gnB S ep i mo else zBt
theorem gnext_any {B : Nat} {K : Bkk} {S : Bsn} (ep : Int) (i mo : Nat) (w : World) (h : Bq w B K S) :
    Calls Try.prog 9 #[bptr K, .int .i64 ep, .int .i64 (i : Int), .int .i64 (mo : Int)] w fun e w' => NxE w.heap.size e w' (gnX S ep i mo) (gnI S ep (i : Int) (mo : Int)) ∧ Below w.heap.size w w' := by
  unfold gnX
  cases hn : gnI S ep (i : Int) (mo : Int)
  · rw [if_neg (by simp)]
    exact gnext_no ep (i : Int) (mo : Int) w h hn
  · rw [if_pos rfl]
    exact gnext_yes ep i mo w h hn
/-- The place behind a place isn't behind one that is. -/
theorem af_le {p q : Int × Int} (hp : J64 p.1 ∧ J64 p.2) (hq : J64 q.2) (h : pl p.1 p.2 q.1 q.2 = true) : pl q.1 q.2 (afW p.1 p.2) (afK p.1 p.2) = false := by
  have h := of_decide_eq_true h
  unfold J64 at hp hq
  apply decide_eq_false
  unfold afW afK
  split <;> (try split) <;> omega
theorem af_mono {p q : Int × Int} (hp : J64 p.1 ∧ J64 p.2) (hq : J64 q.1 ∧ J64 q.2) (h : pl q.1 q.2 p.1 p.2 = false) : pl (afW q.1 q.2) (afK q.1 q.2) (afW p.1 p.2) (afK p.1 p.2) = false := by
  have h := of_decide_eq_false h
  unfold J64 at hp hq
  apply decide_eq_false
  unfold afW afK
  split <;> split <;> (try split) <;> (try split) <;> omega
theorem pl_irr (a b : Int) : pl a b a b = false := by apply decide_eq_false; omega
theorem lisP_sorted (S : Bsn) (i : Nat) (cl : Int × Int) : (lisP S i cl).Pairwise fun x y => (!plq y x) = true := sortP_sorted _
theorem gnT_mono {S : Bsn} (hok : Okb S) (i : Nat) {less more : Nat} (h1 : 1 ≤ less) (h2 : less ≤ more) (cl : Int × Int) (hcl : J64 cl.2) :
    pl (gnT S i more cl).1 (gnT S i more cl).2 (gnT S i less cl).1 (gnT S i less cl).2 = false := by
  have hJ : ∀ p ∈ lisP S i cl, J64 p.1 ∧ J64 p.2 := fun p hp => (hok.kk _ (lisP_mem.1 hp).1).1.2
  have hC : ∀ p ∈ lisP S i cl, pl p.1 p.2 cl.1 cl.2 = true := fun p hp => (lisP_mem.1 hp).2
  have hS := lisP_sorted S i cl
  unfold gnT
  generalize lisP S i cl = P at *
  by_cases c1 : P.length ≤ less
  · rw [if_pos c1, if_pos (by omega)]
    exact pl_irr _ _
  · rw [if_neg c1]
    have hl : P.getD (less - 1) (0, 0) = P[less - 1]'(by omega) := by rw [List.getD_eq_getElem?_getD, List.getElem?_eq_getElem (by omega)]; rfl
    rw [hl]
    by_cases c2 : P.length ≤ more
    · rw [if_pos c2]
      exact af_le (hJ _ (List.getElem_mem _)) hcl (hC _ (List.getElem_mem _))
    · rw [if_neg c2]
      have hm : P.getD (more - 1) (0, 0) = P[more - 1]'(by omega) := by rw [List.getD_eq_getElem?_getD, List.getElem?_eq_getElem (by omega)]; rfl
      rw [hm]
      refine af_mono (hJ _ (List.getElem_mem _)) (hJ _ (List.getElem_mem _)) ?_
      by_cases c3 : less = more
      · subst c3; exact pl_irr _ _
      · have h3 := List.pairwise_iff_getElem.1 hS (less - 1) (more - 1) (by omega) (by omega) (by omega)
        simpa [plq] using h3
theorem clsP_le (S : Bsn) (i : Nat) : J64 (clsP S i).2 := by
  unfold clsP J64
  split <;> (dsimp only; omega)
theorem entQ_refl (l : List Ent) : EntQ l l := ⟨rfl, fun j x y h1 h2 => by rw [h1] at h2; cases h2; exact ⟨rfl, fun i hi => rfl⟩⟩
/-- Two batches, with a lesser and a greater bound. -/
structure GmP (S : Bsn) (i less : Nat) (X Y : Btc) (bl : Bool) : Prop where
  len : X.en.length ≤ Y.en.length
  fr : Y.fr = X.fr
  tt : pl Y.tt.1 Y.tt.2 X.tt.1 X.tt.2 = false
  en : Y.en.take X.en.length = X.en
  ep : Y.ep = X.ep
  cl : bl = true → X.en.length < less → X.tt = clsP S i
  few : Y.en.length ≤ 16
theorem gnL_len {S : Bsn} {i mo : Nat} {cl : Int × Int} : (gnL S i mo cl).length = min mo (lisP S i cl).length := by
  unfold gnL
  rw [entL_len (by omega)]
theorem gm_ok {S : Bsn} (hok : Okb S) (i : Nat) {less more : Nat} (h1 : 1 ≤ less) (h2 : less ≤ more) (h3 : more ≤ 16) :
    gnI S 5 (i : Int) (more : Int) = gnI S 5 (i : Int) (less : Int) ∧ GmP S i less (gnX S 5 i less) (gnX S 5 i more) (gnI S 5 (i : Int) (less : Int)) := by
  have e : gnI S 5 (i : Int) (more : Int) = gnI S 5 (i : Int) (less : Int) := by
    unfold gnI
    rw [decide_eq_true (p := 1 ≤ (5 : Int) ∧ 1 ≤ (more : Int) ∧ (more : Int) ≤ 16) (by omega), decide_eq_true (p := 1 ≤ (5 : Int) ∧ 1 ≤ (less : Int) ∧ (less : Int) ≤ 16) (by omega)]
  refine ⟨e, ?_⟩
  unfold gnX
  rw [e]
  cases hb : gnI S 5 (i : Int) (less : Int)
  · rw [if_neg (by simp)]
    exact ⟨Nat.le_refl _, rfl, pl_irr _ _, rfl, rfl, (fun h => by cases h), by show 0 ≤ 16; omega⟩
  · rw [if_pos rfl, if_pos rfl]
    refine ⟨?_, rfl, gnT_mono hok i h1 h2 _ (clsP_le S i), ?_, rfl, fun _ hl => ?_, ?_⟩
    · show (gnL S i less _).length ≤ (gnL S i more _).length
      rw [gnL_len, gnL_len]; omega
    · show (gnL S i more _).take (gnL S i less _).length = gnL S i less _
      rw [gnL_len]
      unfold gnL entL
      rw [← List.map_take, List.take_take]
      congr 2
      omega
    · have hl2 : (gnL S i less (clsP S i)).length < less := hl
      rw [gnL_len] at hl2
      show gnT S i less (clsP S i) = clsP S i
      unfold gnT
      rw [if_pos (by omega)]
    · show (gnL S i more _).length ≤ 16
      rw [gnL_len]; omega
/-- 'int(uint(x) % n)' -/
theorem mod_nat17 (x : Int) (n : Int) (h0 : 0 < n) (h1 : n ≤ 4096) : ∃ k : Nat, (k : Int) < n ∧ wrap64 ((IntKind.u64.wrap x).tmod n) = (k : Int) := by
  have hx : 0 ≤ IntKind.u64.wrap x := by rw [IntKind.wrap_u64]; omega
  have he : (IntKind.u64.wrap x).tmod n = IntKind.u64.wrap x % n := Int.tmod_eq_emod_of_nonneg hx
  have h2 := Int.emod_nonneg (IntKind.u64.wrap x) (show n ≠ 0 by omega)
  have h3 := Int.emod_lt_of_pos (IntKind.u64.wrap x) h0
  refine ⟨(IntKind.u64.wrap x % n).toNat, by omega, ?_⟩
  rw [he, Int.toNat_of_nonneg h2]
  generalize IntKind.u64.wrap x % n = r at *
  unfold wrap64
  omega
theorem eo_q {α : Type} {E : En α} {e : TypeId} {W : World} {B : Nat} {q : Option Addr} {n cap : Nat} {l : List α} (h : EO E e W B (.slice q n cap) l) : q = none ∨ ∃ g, q = some ⟨g, 0, none⟩ := by
  rcases h.2 with ⟨h2, _⟩ | ⟨g, cap', cur, e1, _⟩
  · injection h2 with e1; exact .inl e1
  · injection e1 with e1; exact .inr ⟨g, e1⟩
theorem slq_run {o : Oper} {w : World} {ρ : Operand → Value} {x z : Operand} (ho : o.op = .slice 46 x none (some z) none) {q : Option Addr} {n cap j : Nat} {J : Int} (hq : q = none ∨ ∃ g, q = some ⟨g, 0, none⟩)
    (hx : ρ x = .slice q n cap) (hz : ρ z = .int .i64 J) (hJ : J = (j : Int)) (h2 : j ≤ cap) : (execOp ρ o).run Try.prog w = .ok (.value (.slice q j cap)) w := by
  rcases hq with rfl | ⟨g, rfl⟩
  · subst hJ
    unfold execOp
    simp only [ho, hx, hz, Option.map_some, Option.map_none, Sem.run_bind, run_sliceAt_slice w 46 _ _ _ _ eltEn, run_slice_h w 46 none n cap eltEn _ (j : Int) (by omega) (by omega), sizeEn, Result.andThen_ok, Sem.run_pure, Int.toNat_natCast, sliced, Nat.zero_mul, Option.map_none, ite_self, Nat.sub_zero]
  · exact sle_run ho hx hz hJ h2
end Go.Proofs.Ytogbhiklhcibdaa
namespace Go.Proofs.Ytogbhiklhcibdaa
open Go.RowKit
set_option linter.unusedVariables false
set_option maxRecDepth 100000

theorem pl_t {a b c d : Int} : pl a b c d = true ↔ (a < c ∨ (a = c ∧ b < d)) := by unfold pl; exact decide_eq_true_iff
theorem pl_f {a b c d : Int} : pl a b c d = false ↔ ¬ (a < c ∨ (a = c ∧ b < d)) := by unfold pl; exact decide_eq_false_iff_not
/-- A basin's cells are those of T, as far as it holds them. -/
structure CvI (S : Bsn) (T : List Tok) : Prop where
  ks : ∀ k ∈ S.ks, ∃ x ∈ T, x.1 = k
  cv : ∀ k ∈ S.ks, Eqv (S.cv k) (JL (smK T k))
  ft : ∀ x ∈ T, FitT x
  ln : T.length ≤ 2000
theorem cvi_rai {S : Bsn} {T : List Tok} (h : CvI S T) (i : Nat) (p : Int × Int) : CvI (drpB (lifB S i p)) T :=
  ⟨fun k hk => h.ks k (List.mem_filter.1 hk).1, fun k hk => by
    show Eqv (if k ∈ (drpB (lifB S i p)).ks then S.cv k else zc) _
    rw [if_pos hk]
    exact h.cv k (List.mem_filter.1 hk).1, h.ft, h.ln⟩
theorem lif_ba {S : Bsn} {i : Nat} {c p : Int × Int} (hc : S.ba[i]? = some c) (hp : pl c.1 c.2 p.1 p.2 = true) : (lifB S i p).ba = S.ba.set i p := by
  unfold lifB
  simp only [hc]
  unfold mxP
  rw [if_pos hp]
theorem pas_own {ba : List (Int × Int)} {k : Kyy} {i : Nat} {p : Int × Int} (e : k.1 = (i : Int)) (hl : i < ba.length) : pasB (ba.set i p) k = pl k.2.1 k.2.2 p.1 p.2 := by
  unfold pasB
  rw [e, Int.toNat_natCast, List.getElem?_set_self hl]
theorem pas_other {ba : List (Int × Int)} {k : Kyy} {i : Nat} {p : Int × Int} (h : k.1.toNat ≠ i) : pasB (ba.set i p) k = pasB ba k := by
  unfold pasB
  rw [List.getElem?_set_ne (Ne.symm h)]
theorem lisP_cnt (S : Bsn) (i : Nat) (cl : Int × Int) : (lisP S i cl).length = (S.ks.filter (selK (i : Int) cl)).length := by
  unfold lisP plsK
  rw [sortP_len, List.length_map]
/-- A lane's cells behind a raised base. -/
theorem lisP_rai {S : Bsn} {i : Nat} {c p cl : Int × Int} (hc : S.ba[i]? = some c) (hp : pl c.1 c.2 p.1 p.2 = true) :
    (lisP (drpB (lifB S i p)) i cl).length = ((lisP S i cl).filter fun q => !pl q.1 q.2 p.1 p.2).length := by
  have hl : i < S.ba.length := (List.getElem?_eq_some_iff.1 hc).1
  have e1 : ((lisP S i cl).filter fun q => !pl q.1 q.2 p.1 p.2).length = ((plsK (i : Int) cl S.ks).filter fun q => !pl q.1 q.2 p.1 p.2).length := ((sortP_perm _).filter _).length_eq
  rw [e1, lisP_cnt]
  unfold plsK
  rw [List.filter_map, List.length_map, List.filter_filter]
  show (((S.ks.filter fun k => !pasB (lifB S i p).ba k)).filter (selK (i : Int) cl)).length = _
  rw [lif_ba hc hp, List.filter_filter]
  congr 1
  apply List.filter_congr
  intro k hk
  by_cases e : k.1 = (i : Int)
  · rw [pas_own e hl]
    simp [Bool.and_comm, Function.comp]
  · unfold selK
    simp [e]
theorem lisP_other {S : Bsn} {i j : Nat} {c p cl : Int × Int} (np : npB S) (hij : j ≠ i) (hc : S.ba[i]? = some c) (hp : pl c.1 c.2 p.1 p.2 = true) : lisP (drpB (lifB S i p)) j cl = lisP S j cl := by
  unfold lisP plsK
  congr 2
  show ((S.ks.filter fun k => !pasB (lifB S i p).ba k)).filter (selK (j : Int) cl) = _
  rw [lif_ba hc hp, List.filter_filter]
  apply List.filter_congr
  intro k hk
  by_cases e : k.1 = (j : Int)
  · rw [pas_other (by rw [e, Int.toNat_natCast]; exact hij), np k hk]
    simp
  · unfold selK
    simp [e]
theorem af_up {p cl : Int × Int} (hp : J64 p.1 ∧ J64 p.2) (hc : J64 cl.1 ∧ J64 cl.2) (h : pl p.1 p.2 cl.1 cl.2 = true) : pl p.1 p.2 (afW p.1 p.2) (afK p.1 p.2) = true ∧ J64 (afW p.1 p.2) ∧ J64 (afK p.1 p.2) := by
  rw [pl_t] at h ⊢
  unfold J64 at *
  unfold afW afK
  by_cases c1 : p.2 < 9223372036854775807
  · simp only [if_pos c1]
    refine ⟨?_, ⟨?_, ?_⟩, ?_, ?_⟩ <;> first | omega | exact .inr ⟨trivial, by omega⟩ | simp
  · simp only [if_neg c1]
    have : p.1 < 9223372036854775807 := by omega
    simp only [if_pos this]
    refine ⟨?_, ⟨?_, ?_⟩, ?_, ?_⟩ <;> first | omega | simp
/-- What a batch is, of a lane whose base isn't closed yet. -/
structure CvB (S : Bsn) (T : List Tok) (i mo : Nat) (c cl : Int × Int) (X : Btc) : Prop where
  ck : GkP X
  fr : X.fr = c
  up : pl c.1 c.2 X.tt.1 X.tt.2 = true
  le : pl cl.1 cl.2 X.tt.1 X.tt.2 = false
  few : X.en.length ≤ mo
  en : ∀ (j : Nat) (e : Ent), X.en[j]? = some e → ((i : Int), e.1) ∈ S.ks ∧ Eqv e.2 (JL (smK T ((i : Int), e.1)))
  J : J64 X.tt.1 ∧ J64 X.tt.2
  cnt : (lisP (drpB (lifB S i X.tt)) i cl).length + X.en.length = (lisP S i cl).length
  fin : X.en.length = 0 → X.tt = cl
theorem np_at {S : Bsn} {i : Nat} {c p : Int × Int} (np : npB S) (hc : S.ba[i]? = some c) (h : ((i : Int), p) ∈ S.ks) : pl p.1 p.2 c.1 c.2 = false := by
  have := np _ h
  unfold pasB at this
  simpa only [Int.toNat_natCast, hc] using this
theorem gnT_at {S : Bsn} {i mo : Nat} {c cl : Int × Int} (hok : Okb S) (np : npB S) (hc : S.ba[i]? = some c) (h1 : 1 ≤ mo) (hg : pl c.1 c.2 cl.1 cl.2 = true) (hJ : J64 cl.1 ∧ J64 cl.2) :
    pl c.1 c.2 (gnT S i mo cl).1 (gnT S i mo cl).2 = true ∧ pl cl.1 cl.2 (gnT S i mo cl).1 (gnT S i mo cl).2 = false ∧ (J64 (gnT S i mo cl).1 ∧ J64 (gnT S i mo cl).2) ∧
      (∀ j q, j < mo → (lisP S i cl)[j]? = some q → pl q.1 q.2 (gnT S i mo cl).1 (gnT S i mo cl).2 = true) ∧
      (∀ j q, mo ≤ j → (lisP S i cl)[j]? = some q → pl q.1 q.2 (gnT S i mo cl).1 (gnT S i mo cl).2 = false) ∧ ((lisP S i cl).length = 0 → gnT S i mo cl = cl) := by
  have hPJ : ∀ p ∈ lisP S i cl, J64 p.1 ∧ J64 p.2 := fun p hp => (hok.kk _ (lisP_mem.1 hp).1).1.2
  have hC : ∀ p ∈ lisP S i cl, pl p.1 p.2 cl.1 cl.2 = true := fun p hp => (lisP_mem.1 hp).2
  have hN : ∀ p ∈ lisP S i cl, pl p.1 p.2 c.1 c.2 = false := fun p hp => np_at np hc (lisP_mem.1 hp).1
  have hS : (lisP S i cl).Pairwise fun x y => plq x y = true := sortP_rises (plsK_nodup hok.nd)
  unfold gnT
  generalize lisP S i cl = P at *
  by_cases c1 : P.length ≤ mo
  · rw [if_pos c1]
    exact ⟨hg, pl_irr _ _, hJ, fun j q _ hq => hC q (List.mem_of_getElem? hq), fun j q hj hq => by have := (List.getElem?_eq_some_iff.1 hq).1; omega, fun _ => rfl⟩
  · rw [if_neg c1]
    have hl : P.getD (mo - 1) (0, 0) = P[mo - 1]'(by omega) := by rw [List.getD_eq_getElem?_getD, List.getElem?_eq_getElem (by omega)]; rfl
    rw [hl]
    have hm := List.getElem_mem (l := P) (n := mo - 1) (by omega)
    have hlt : ∀ a b, (ha : a < P.length) → (hb : b < P.length) → a < b → plq P[a] P[b] = true := fun a b ha hb hab => List.pairwise_iff_getElem.1 hS a b ha hb hab
    generalize hz : P[mo - 1]'(by omega) = z at *
    obtain ⟨u1, u2, u3⟩ := af_up (hPJ z hm) hJ (hC z hm)
    have v1 := hN z hm
    refine ⟨?_, af_le (hPJ z hm) hJ.2 (hC z hm), ⟨u2, u3⟩, fun j q hj hq => ?_, fun j q hj hq => ?_, fun h => by omega⟩
    · dsimp only
      rw [pl_t] at u1 ⊢; rw [pl_f] at v1; omega
    · dsimp only
      obtain ⟨hj2, e⟩ := List.getElem?_eq_some_iff.1 hq
      by_cases ej : j = mo - 1
      · subst ej; rw [← e, hz]; exact u1
      · have w1 := hlt j (mo - 1) hj2 (by omega) (by omega)
        rw [hz, e] at w1
        rw [plq_iff] at w1
        rw [pl_t] at u1 ⊢; omega
    · dsimp only
      obtain ⟨hj2, e⟩ := List.getElem?_eq_some_iff.1 hq
      have w1 := hlt (mo - 1) j (by omega) hj2 (by omega)
      rw [hz, e] at w1
      exact af_le (hPJ z hm) (hPJ q (List.mem_of_getElem? hq)).2 w1
theorem cv_batch {S : Bsn} {T : List Tok} {i mo : Nat} {c : Int × Int} (hok : Okb S) (np : npB S) (hcv : CvI S T) (hc : S.ba[i]? = some c) (h1 : 1 ≤ mo) (h16 : mo ≤ 16)
    (hg : pl c.1 c.2 (clsP S i).1 (clsP S i).2 = true) (hJ : J64 (clsP S i).1 ∧ J64 (clsP S i).2) : CvB S T i mo c (clsP S i) (gnB S 1 i mo) := by
  generalize hcl : clsP S i = cl at *
  obtain ⟨g1, g2, g3, g4, g5, g6⟩ := gnT_at hok np hc h1 hg hJ
  have hS : (lisP S i cl).Pairwise fun x y => plq x y = true := sortP_rises (plsK_nodup hok.nd)
  have hM : ∀ p ∈ lisP S i cl, ((i : Int), p) ∈ S.ks := fun p hp => (lisP_mem.1 hp).1
  have hX : gnB S 1 i mo = ⟨1, (i : Int), c, gnT S i mo cl, gnL S i mo cl⟩ := by unfold gnB; rw [hc, hcl]; rfl
  have hlen : (gnL S i mo cl).length = min mo (lisP S i cl).length := gnL_len
  have hat : ∀ j e, (gnL S i mo cl)[j]? = some e → j < mo ∧ (lisP S i cl)[j]? = some e.1 ∧ e.2 = S.cv ((i : Int), e.1) := by
    intro j e he
    unfold gnL entL at he
    rw [List.getElem?_map] at he
    have hj : j < min mo (lisP S i cl).length := by
      have := (List.getElem?_eq_some_iff.1 (show ((((lisP S i cl).take (min mo (lisP S i cl).length)).map fun p => (p, S.cv ((i : Int), p)))[j]? = some e) by rw [List.getElem?_map]; exact he)).1
      rw [List.length_map, List.length_take] at this
      omega
    rw [List.getElem?_take_of_lt hj] at he
    cases hp : (lisP S i cl)[j]? with
    | none => rw [hp] at he; cases he
    | some p => rw [hp] at he; injection he with he; subst he; exact ⟨by omega, rfl, rfl⟩
  have hne : ∀ k ∈ S.ks, eqC (S.cv k) zc = false := by
    intro k hk
    obtain ⟨x, hx, e⟩ := hcv.ks k hk
    have h2 := JL_not (smK T k) (Nat.le_trans (smK_len T k) hcv.ln) (fun s hs => (smK_fit hcv.ft s hs).2.2.2) (smK_ne hx e)
    cases hq : eqC (S.cv k) zc
    · rfl
    · exfalso
      have h3 : eqC (JL (smK T k)) zc = true := (eqC_iff _ _).2 fun j hj => ((hcv.cv k hk) j hj).symm.trans ((eqC_iff _ _).1 hq j hj)
      rw [h3] at h2; cases h2
  rw [hX]
  refine ⟨⟨by show (1 : Int) ≤ 1; omega, by show (0 : Int) ≤ (i : Int); omega, ?_, ?_, fun j e he => ?_⟩, rfl, g1, g2, ?_, fun j e he => ?_, g3, ?_, fun h => ?_⟩
  · show pl (gnT S i mo cl).1 (gnT S i mo cl).2 c.1 c.2 = false
    rw [pl_t] at g1; rw [pl_f]; omega
  · show (gnL S i mo cl).length ≤ 16
    omega
  · obtain ⟨hj, hp, he2⟩ := hat j e he
    have hks := hM _ (List.mem_of_getElem? hp)
    refine ⟨fun y hj0 hy => ?_, np_at np hc hks, g4 j _ hj hp, by rw [he2]; exact hne _ hks⟩
    obtain ⟨_, hp2, _⟩ := hat (j - 1) y hy
    obtain ⟨l1, e1⟩ := List.getElem?_eq_some_iff.1 hp
    obtain ⟨l2, e2⟩ := List.getElem?_eq_some_iff.1 hp2
    have := List.pairwise_iff_getElem.1 hS (j - 1) j l2 l1 (by omega)
    rw [e1, e2] at this
    exact this
  · show (gnL S i mo cl).length ≤ mo
    omega
  · obtain ⟨hj, hp, he2⟩ := hat j e he
    have hks := hM _ (List.mem_of_getElem? hp)
    exact ⟨hks, by rw [he2]; exact hcv.cv _ hks⟩
  · show (lisP (drpB (lifB S i (gnT S i mo cl))) i cl).length + (gnL S i mo cl).length = _
    rw [lisP_rai hc g1, hlen]
    have e1 : ((lisP S i cl).take mo).filter (fun q => !pl q.1 q.2 (gnT S i mo cl).1 (gnT S i mo cl).2) = [] := by
      rw [List.filter_eq_nil_iff]
      intro q hq
      obtain ⟨j, hj, e⟩ := List.getElem_of_mem hq
      rw [List.getElem_take] at e
      rw [List.length_take] at hj
      have := g4 j q (by omega) (by rw [List.getElem?_eq_getElem (by omega), e])
      simp [this]
    have e2 : ((lisP S i cl).drop mo).filter (fun q => !pl q.1 q.2 (gnT S i mo cl).1 (gnT S i mo cl).2) = (lisP S i cl).drop mo := by
      rw [List.filter_eq_self]
      intro q hq
      obtain ⟨j, hj, e⟩ := List.getElem_of_mem hq
      rw [List.getElem_drop] at e
      rw [List.length_drop] at hj
      have := g5 (mo + j) q (by omega) (by rw [List.getElem?_eq_getElem (by omega), e])
      simp [this]
    have e3 : (lisP S i cl).filter (fun q => !pl q.1 q.2 (gnT S i mo cl).1 (gnT S i mo cl).2) = (lisP S i cl).drop mo := by
      conv => lhs; rw [← List.take_append_drop mo (lisP S i cl)]
      rw [List.filter_append, e1, e2, List.nil_append]
    rw [e3, List.length_drop]
    omega
  · refine g6 ?_
    have h2 : (gnL S i mo cl).length = 0 := h
    omega
theorem cv_end {S : Bsn} {i : Nat} {c cl : Int × Int} (np : npB S) (hc : S.ba[i]? = some c) (hg : pl c.1 c.2 cl.1 cl.2 = false) : (lisP S i cl).length = 0 := by
  rw [List.length_eq_zero_iff, List.eq_nil_iff_forall_not_mem]
  intro p hp
  obtain ⟨h1, h2⟩ := lisP_mem.1 hp
  have h3 := np_at np hc h1
  rw [pl_t] at h2
  rw [pl_f] at hg h3
  omega
/-- All the cells that are asked for. -/
theorem cv_two (cl : Int × Int) : ∀ l : List Kyy, (∀ k ∈ l, 0 ≤ k.1 ∧ k.1 < 2) → (l.filter fun k => pl k.2.1 k.2.2 cl.1 cl.2).length = (l.filter (selK ((0 : Nat) : Int) cl)).length + (l.filter (selK ((1 : Nat) : Int) cl)).length
  | [], _ => rfl
  | k :: l, h => by
    have ih := cv_two cl l fun x hx => h x (List.mem_cons_of_mem _ hx)
    obtain ⟨h0, h1⟩ := h k (List.mem_cons_self ..)
    have hk : k.1 = 0 ∨ k.1 = 1 := by omega
    cases hp : pl k.2.1 k.2.2 cl.1 cl.2
    · have s0 : selK ((0 : Nat) : Int) cl k = false := by unfold selK; rw [hp]; simp
      have s1 : selK ((1 : Nat) : Int) cl k = false := by unfold selK; rw [hp]; simp
      rw [List.filter_cons_of_neg (by rw [hp]; simp), List.filter_cons_of_neg (by rw [s0]; simp), List.filter_cons_of_neg (by rw [s1]; simp)]
      exact ih
    · rcases hk with e | e
      · have s0 : selK ((0 : Nat) : Int) cl k = true := by unfold selK; rw [hp, e]; simp
        have s1 : selK ((1 : Nat) : Int) cl k = false := by unfold selK; rw [hp, e]; simp
        rw [List.filter_cons_of_pos (by rw [hp]), List.filter_cons_of_pos s0, List.filter_cons_of_neg (by rw [s1]; simp), List.length_cons, List.length_cons]
        omega
      · have s0 : selK ((0 : Nat) : Int) cl k = false := by unfold selK; rw [hp, e]; simp
        have s1 : selK ((1 : Nat) : Int) cl k = true := by unfold selK; rw [hp, e]; simp
        rw [List.filter_cons_of_pos (by rw [hp]), List.filter_cons_of_neg (by rw [s0]; simp), List.filter_cons_of_pos s1, List.length_cons, List.length_cons]
        omega
theorem cv_want {S : Bsn} (hok : Okb S) (two : S.ba.length = 2) {M : List Kyy} (hM : M.Nodup) {base : Int × Int} (hm : ∀ k, k ∈ S.ks ↔ k ∈ M ∧ pl k.2.1 k.2.2 base.1 base.2 = false) (cl : Int × Int) :
    (M.filter fun k => pl k.2.1 k.2.2 cl.1 cl.2 && !pl k.2.1 k.2.2 base.1 base.2).length = (lisP S 0 cl).length + (lisP S 1 cl).length := by
  rw [lisP_cnt, lisP_cnt, ← cv_two cl S.ks (fun k hk => by have := (hok.kk k hk).2; rw [two] at this; exact this)]
  refine List.Perm.length_eq ((List.perm_ext_iff_of_nodup (hM.filter _) (hok.nd.filter _)).2 fun k => ?_)
  rw [List.mem_filter, List.mem_filter, hm]
  cases pl k.2.1 k.2.2 cl.1 cl.2 <;> cases pl k.2.1 k.2.2 base.1 base.2 <;> simp
end Go.Proofs.Ytogbhiklhcibdaa
namespace Go.Proofs.Ytogbhiklhcibdaa
open Go.RowKit
set_option linter.unusedVariables false
set_option maxRecDepth 100000

theorem fold_fl (one : Nat → Int) : ∀ (l : List Kyy) (S : Bsn), (l.foldl (fun T k => addB T one k) S).fl = S.fl
  | [], _ => rfl
  | k :: l, S => by rw [List.foldl_cons]; exact fold_fl one l _
theorem tak_fl (i : Nat) : ∀ (l : List Op5) (S : Bsn), (∀ o ∈ l, o.k ≠ 2) → (l.foldl (stpB i) (S, none)).1.fl = S.fl
  | [], _, _ => rfl
  | o :: l, S, h => by
    rw [List.foldl_cons]
    have ho := h o (by simp)
    unfold stpB
    dsimp only
    rw [if_neg ho]
    by_cases c : rooB S o = true
    · rw [if_pos c]
      have := tak_fl i l (pouB S (i : Int) o) (fun x hx => h x (by simp [hx]))
      unfold stpB at this
      rw [this]
      exact fold_fl _ _ _
    · rw [if_neg c]
      have := stp_stuck i o.s l S
      unfold stpB at this
      rw [this]
theorem mx_lst {p : Int × Int} (h : J64 p.1 ∧ J64 p.2) : mxP lstP p = p := by
  unfold mxP
  split
  · rfl
  · rename_i c
    have c2 : pl lstP.1 lstP.2 p.1 p.2 = false := by simpa using c
    rw [pl_f] at c2
    unfold lstP at *
    unfold J64 at h
    dsimp only at c2
    exact Prod.ext (by dsimp only; omega) (by dsimp only; omega)
theorem bf17_fl {r mark : Int} {ops : List Op5} (hf : ∀ o ∈ ops, Fit5 o) (hr : 1 ≤ r ∧ r ≤ 9223372036854775807) (hm : J64 mark) (hn : ops.length ≤ 150) :
    (∃ x, (bf17 r mark ops).fl = [⟨x, mark, true⟩]) ∧ LstI (bf17 r mark ops) (takQ 0 2 [r] (fdL ops mark)) ∧ StK (newBsn 1 [r] 2 1024) (bf17 r mark ops) := by
  have hN : LstI (newBsn 1 [r] 2 1024) [] := lst_new (by unfold newOK goodR; simp [hr.1]) (fun x hx => by rw [List.mem_singleton.1 hx]; exact hr.2)
  have hF := fdL_fit hf hm hn
  have hlen : ((([] : List Tok).length + (fdL ops mark).length * (newBsn 1 [r] 2 1024).res.length : Nat) : Int) ≤ (newBsn 1 [r] 2 1024).mo := by
    show (((0 + (fdL ops mark).length * 1 : Nat)) : Int) ≤ 1024
    rw [fdL_len]; omega
  obtain ⟨-, hz, hL, hK⟩ := fd_lst (i := 0) hN (by unfold J64; omega) (la := (ops.length : Int) + 1) (cut := [lstP, lstP]) (ops := fdL ops mark) rfl (fun p hp => by simpa using hp) hF hlen
  rw [List.nil_append] at hL
  refine ⟨?_, hL, hK⟩
  have hO : ∀ o ∈ fdO ops, Fit5 o := fun o ho => hF o (by unfold fdL; simp [ho])
  have h1 := (tak_lst 0 (by unfold J64; omega) (fdO ops) (newBsn 1 [r] 2 1024) [] hN hO (by
    show (((0 + (fdO ops).length * 1 : Nat)) : Int) ≤ 1024
    rw [fdO_len]; omega)).1
  have h2 := tak_fl 0 (fdO ops) (newBsn 1 [r] 2 1024) (fun o ho => by
    obtain ⟨k, hk, e⟩ := List.getElem_of_mem ho
    have := (fdO_s (List.getElem?_eq_some_iff.2 ⟨hk, e⟩)).2
    omega)
  have h3 : takB (newBsn 1 [r] 2 1024) 0 (fdL ops mark) = (pncB (takB (newBsn 1 [r] 2 1024) 0 (fdO ops)).1 0 mark, none) := by
    unfold fdL takB
    rw [List.foldl_append]
    have h4 : (fdO ops).foldl (stpB 0) (newBsn 1 [r] 2 1024, none) = (((fdO ops).foldl (stpB 0) (newBsn 1 [r] 2 1024, none)).1, none) := Prod.ext rfl h1
    rw [h4]
    rfl
  have h5 : (takB (newBsn 1 [r] 2 1024) 0 (fdO ops)).1.fl = [newFl] := h2
  show ∃ x, (fdZ (newBsn 1 [r] 2 1024) 0 ((ops.length : Int) + 1) [lstP, lstP] (fdL ops mark)).fl = _
  rw [hz, h3]
  unfold nxtB pncB
  dsimp only
  rw [h5]
  exact ⟨_, rfl⟩
/-- The basin as the loops find it. -/
structure CvS (S : Bsn) (T : List Tok) (r mark : Int) (base : Int × Int) : Prop where
  np : npB S
  cv : CvI S T
  ba : S.ba = [base, base]
  ks : ∀ k, k ∈ S.ks ↔ (∃ x ∈ T, x.1 = k) ∧ pl k.2.1 k.2.2 base.1 base.2 = false
  lm : lmB S.fl = true
  cl : ∀ i, i < 2 → clsP S i = (flD mark r, -9223372036854775808)
  few : T.length ≤ 150
theorem takQ_few {i : Nat} {sh r mark : Int} (ops : List Op5) : (takQ i sh [r] (fdL ops mark)).length ≤ ops.length := by
  unfold fdL
  rw [takQ_append, takQ_mark _ rfl]
  have h1 := takQ_len i sh [r] (fdO ops)
  rw [fdO_len] at h1
  show (takQ i sh [r] (fdO ops) ++ []).length ≤ ops.length
  rw [List.append_nil]
  simpa using h1
theorem cv_start {r mark : Int} {base : Int × Int} {ops : List Op5} (hf : ∀ o ∈ ops, Fit5 o) (hr : 1 ≤ r ∧ r ≤ 9223372036854775807) (hm : J64 mark) (hb : J64 base.1 ∧ J64 base.2) (hn : ops.length ≤ 150) :
    CvS (bs17 r mark base ops) (takQ 0 2 [r] (fdL ops mark)) r mark base := by
  obtain ⟨⟨fx, hfl⟩, hL, hK⟩ := bf17_fl hf hr hm hn (r := r) (mark := mark) (ops := ops)
  have hT : (takQ 0 2 [r] (fdL ops mark)).length ≤ 150 := Nat.le_trans (takQ_few ops) hn
  have hba : (bf17 r mark ops).ba = [lstP, lstP] := hK.ba
  have hres : (bf17 r mark ops).res = [r] := hK.res
  have hsh : (bf17 r mark ops).sh = 2 := hK.sh
  have hkk := hL.ok.kk
  rw [hba] at hkk
  have htk := hL.tk
  generalize takQ 0 2 [r] (fdL ops mark) = T at *
  unfold bs17
  generalize bf17 r mark ops = S1 at *
  have hI1 : CvI S1 T := ⟨fun k hk => (htk.ks k).1 hk, fun k _ => htk.cv k, htk.ft, by omega⟩
  have e1 : (lifB S1 0 base).ba = [base, lstP] := by unfold lifB; rw [hba]; show [mxP lstP base, lstP] = _; rw [mx_lst hb]
  have e2 : (lifB (drpB (lifB S1 0 base)) 1 base).ba = [base, base] := by
    have h1 : (drpB (lifB S1 0 base)).ba = [base, lstP] := e1
    unfold lifB at h1 ⊢
    dsimp only at h1 ⊢
    rw [h1]
    show [base, mxP lstP base] = _
    rw [mx_lst hb]
  show CvS (drpB (lifB (drpB (lifB S1 0 base)) 1 base)) T r mark base
  refine ⟨np_drp _, cvi_rai (cvi_rai hI1 0 base) 1 base, e2, fun k => ?_, ?_, fun i hi => ?_, hT⟩
  · show k ∈ ((S1.ks.filter fun k => !pasB (lifB S1 0 base).ba k)).filter (fun k => !pasB (lifB (drpB (lifB S1 0 base)) 1 base).ba k) ↔ _
    rw [e1, e2, List.mem_filter, List.mem_filter, ← htk.ks k]
    constructor
    · rintro ⟨⟨h1, h2⟩, h3⟩
      refine ⟨h1, ?_⟩
      obtain ⟨-, k0, k1⟩ := hkk k h1
      have k1 : k.1 < 2 := k1
      have hk : k.1 = 0 ∨ k.1 = 1 := by omega
      unfold pasB at h3
      rcases hk with e | e <;> rw [e] at h3 <;> simpa using h3
    · rintro ⟨h1, h2⟩
      obtain ⟨hky, k0, k1⟩ := hkk k h1
      have k1 : k.1 < 2 := k1
      have hk : k.1 = 0 ∨ k.1 = 1 := by omega
      have h4 : pl k.2.1 k.2.2 lstP.1 lstP.2 = false := pl_lst hky.2
      unfold pasB
      rcases hk with e | e <;> rw [e] <;> refine ⟨⟨h1, ?_⟩, ?_⟩ <;> simp [h2, h4]
  · show lmB S1.fl = true
    rw [hfl]; rfl
  · have hS : ∃ x, (drpB (lifB (drpB (lifB S1 0 base)) 1 base)).fl = [⟨x, mark, true⟩] := ⟨fx, hfl⟩
    have hR : (drpB (lifB (drpB (lifB S1 0 base)) 1 base)).res = [r] := hres
    have hH : (drpB (lifB (drpB (lifB S1 0 base)) 1 base)).sh = 2 := hsh
    generalize drpB (lifB (drpB (lifB S1 0 base)) 1 base) = S at *
    obtain ⟨x, hS⟩ := hS
    have hb2 : lmB S.fl = true := by rw [hS]; rfl
    have hi0 : i / 2 = 0 := by omega
    rw [clsP_yes hb2 (r := r) (by rw [hR, hH]; show ([r] : List Int)[i / 2]? = _; rw [hi0]; rfl), lmV_yes hb2, hS]
    congr 2
    show min 9223372036854775807 mark = mark
    unfold J64 at hm
    omega
end Go.Proofs.Ytogbhiklhcibdaa
namespace Go.Proofs.Ytogbhiklhcibdaa
open Go.RowKit Go.Maps
set_option linter.unusedVariables false
set_option maxRecDepth 100000

def gkb (b : Btc) : Bool := decide (1 ≤ b.ep) && decide (0 ≤ b.ln) && !pl b.tt.1 b.tt.2 b.fr.1 b.fr.2 && decide (b.en.length ≤ 16) && (List.range b.en.length).all fun i => match b.en[i]? with
  | some x => (decide (i = 0) || match b.en[i - 1]? with | some y => pl y.1.1 y.1.2 x.1.1 x.1.2 | none => true) && !pl x.1.1 x.1.2 b.fr.1 b.fr.2 && pl x.1.1 x.1.2 b.tt.1 b.tt.2 && !eqC x.2 zc
  | none => true
theorem gkb_iff (b : Btc) : gkb b = true ↔ GkP b := by
  unfold gkb
  simp only [Bool.and_eq_true, decide_eq_true_eq, Bool.not_eq_true', List.all_eq_true, List.mem_range]
  constructor
  · rintro ⟨⟨⟨⟨h1, h2⟩, h3⟩, h4⟩, h5⟩
    refine ⟨h1, h2, h3, h4, fun i x hx => ?_⟩
    have hi := (List.getElem?_eq_some_iff.1 hx).1
    have h6 := h5 i hi
    rw [hx] at h6
    simp only [Bool.and_eq_true, Bool.or_eq_true, decide_eq_true_eq, Bool.not_eq_true'] at h6
    obtain ⟨⟨⟨k1, k2⟩, k3⟩, k4⟩ := h6
    refine ⟨fun y h0 hy => ?_, k2, k3, k4⟩
    rw [hy] at k1
    rcases k1 with k1 | k1
    · omega
    · exact k1
  · rintro ⟨h1, h2, h3, h4, h5⟩
    refine ⟨⟨⟨⟨h1, h2⟩, h3⟩, h4⟩, fun i hi => ?_⟩
    have hx := List.getElem?_eq_getElem hi
    have h6 := h5 i _ hx
    rw [hx]
    simp only [Bool.and_eq_true, Bool.or_eq_true, decide_eq_true_eq, Bool.not_eq_true']
    refine ⟨⟨⟨?_, h6.lo⟩, h6.hi⟩, h6.ne⟩
    by_cases c : i = 0
    · exact .inl c
    · right
      cases hy : b.en[i - 1]? with
      | none => rfl
      | some y => exact h6.up y (by omega) hy
def alO17 : List Op5 := [⟨0, 0, 1, 0, 1⟩, ⟨0, 0, 2, 4, 1⟩, ⟨0, 0, 11, 2, 1⟩]
def alS17 : Bsn := bs17 10 25 lstP alO17
def alB17 : Btc := gnB alS17 3 0 2
def alS18 : Bsn := drpB (lifB alS17 0 (0, 5))
def alC17 : Btc := gnB alS18 3 0 2
theorem al17_k : plsK ((0 : Nat) : Int) (clsP alS17 0) alS17.ks = [(0, 0), (0, 4), (1, 2)] := by decide +kernel
theorem al17_p : lisP alS17 0 (clsP alS17 0) = [(0, 0), (0, 4), (1, 2)] := by
  unfold lisP
  rw [al17_k]
  unfold sortP
  exact List.mergeSort_of_pairwise (by decide)
def alX17 : Btc := ⟨3, 0, lstP, (0, 5), entL alS17 ((0 : Nat) : Int) [(0, 0), (0, 4), (1, 2)] 2⟩
theorem al17_x : alB17 = alX17 := by
  unfold alB17 gnB gnT gnL
  rw [al17_p]
  have h : (if ([(0, 0), (0, 4), (1, 2)] : List (Int × Int)).length ≤ 2 then clsP alS17 0 else (afW (([(0, 0), (0, 4), (1, 2)] : List (Int × Int)).getD (2 - 1) (0, 0)).1 (([(0, 0), (0, 4), (1, 2)] : List (Int × Int)).getD (2 - 1) (0, 0)).2, afK (([(0, 0), (0, 4), (1, 2)] : List (Int × Int)).getD (2 - 1) (0, 0)).1 (([(0, 0), (0, 4), (1, 2)] : List (Int × Int)).getD (2 - 1) (0, 0)).2)) = (0, 5) := by rw [if_neg (by decide)]; decide
  rw [h, show (alS17.ba[0]?).getD (0, 0) = lstP by decide +kernel]
  rfl
theorem al17_a : gnI alS17 3 0 2 = true := by decide +kernel
theorem al17_b : alX17.en.length = 2 := by decide +kernel
theorem al17_c : gnI alS18 3 0 2 = true := by decide +kernel
theorem al17_d : alC17.en.length = 1 ∧ alC17.fr = (0, 5) ∧ alC17.tt = (2, -9223372036854775808) := by decide +kernel
theorem al17_e : gkb alX17 = true := by decide +kernel
theorem al17_l : alS17.ba.length = 2 := by decide +kernel
theorem al17_f : alX17.tt = (0, 5) ∧ alX17.fr = lstP ∧ alX17.ep = 3 ∧ alX17.ln = 0 := ⟨rfl, rfl, rfl, rfl⟩
theorem al17_bt (v : Value) : btA alC17 v = #[.int .i64 3, .int .i64 0, .int .i64 0, .int .i64 5, .int .i64 2, .int .i64 (-9223372036854775808), v] := by
  unfold btA
  rw [al17_d.2.1, al17_d.2.2]
  rfl
theorem bs_op3 (w : World) : (Instr.buildSlice 22 3 #[(0, .agg (opA ⟨0, 0, 1, 0, 1⟩)), (1, .agg (opA ⟨0, 0, 2, 4, 1⟩)), (2, .agg (opA ⟨0, 0, 11, 2, 1⟩))]).run Try.prog w = .ok (.slice (some ⟨w.heap.size, 0, none⟩) 3 3) (w.alloc (.cells (E5.fl alO17).toArray 35)) := by kernel_rfl
theorem bsO3 {ops : Array Oper} {rest : List Oper} {o : Oper} {a : Act} {w : World} {Q : Exit → Act → World → Prop} (hw : Region.wanted o (yielded ops a.tmps) = true) {parts : Array (Nat × Operand)} (ho : o.op = .buildSlice 22 3 parts)
    (hl : parts.map (fun (i, x) => (i, a.eval x)) = #[(0, .agg (opA ⟨0, 0, 1, 0, 1⟩)), (1, .agg (opA ⟨0, 0, 2, 4, 1⟩)), (2, .agg (opA ⟨0, 0, 11, 2, 1⟩))])
    (h : ∀ W', EO E5 35 W' w.heap.size (.slice (some ⟨w.heap.size, 0, none⟩) 3 3) alO17 → Below w.heap.size w W' → wpList Try.prog ops Q rest (a.put o.dst (.slice (some ⟨w.heap.size, 0, none⟩) 3 3)) W') : wpList Try.prog ops Q (o :: rest) a w := by
  unfold wpList
  rw [if_pos hw]
  left
  unfold Oper.wp execOp
  simp only [ho, Sem.run_bind, hl, bs_op3, Result.andThen_ok]
  exact h _ (eo_of (n := 3) (own_blkE (xs := E5.fl alO17) (Blk.new _ _ _) (Nat.le_refl _) (by rfl) (by unfold maxLen; omega))) ((Below.refl _ _).alloc (Nat.le_refl _) _)
theorem eqNE (w : World) : (binOp .eql 52 .nilIface .nilIface).run Try.prog w = .ok (.bool true) w := by kernel_rfl
set_option maxHeartbeats 2000000 in
theorem alive17_any (w : World) : Calls Try.prog 4 #[] w fun e w' => e = .returned (.bool true) ∧ Below w.heap.size w w' := by
  have HBs : ∀ (V : World) (v : Value), ER E5 V v alO17 → Calls Try.prog 5 #[.agg #[v, .int .i64 10, .int .i64 25, .int .i64 (-9223372036854775808), .int .i64 (-9223372036854775808)]] V fun e w' => BsE V.heap.size e w' alS17 ∧ Below V.heap.size V w' := fun V v hv => basins_yes v alO17 10 25 lstP V hv (fun o ho => by
    simp only [alO17, List.mem_cons, List.mem_nil_iff, or_false] at ho
    rcases ho with rfl | rfl | rfl <;> (constructor <;> (unfold J64; dsimp only; omega))) ⟨by decide, by decide⟩ (by unfold J64; omega) (by unfold J64 lstP; dsimp only; omega) (by decide)
  have HNx : ∀ (V : World) (B : Nat) (K : Bkk), Bq V B K alS17 → Calls Try.prog 9 #[bptr K, .int .i64 3, .int .i64 0, .int .i64 2] V fun e w' => NxE V.heap.size e w' alX17 true ∧ Below V.heap.size V w' := fun V B K h => by
    have := gnext_yes 3 0 2 V h al17_a
    rw [show gnB alS17 3 0 2 = alX17 from al17_x] at this
    exact this
  have HNy : ∀ (V : World) (B : Nat) (K : Bkk), Bq V B K alS18 → Calls Try.prog 9 #[bptr K, .int .i64 3, .int .i64 0, .int .i64 2] V fun e w' => NxE V.heap.size e w' alC17 true ∧ Below V.heap.size V w' := fun V B K h => gnext_yes 3 0 2 V h al17_c
  have HRs : ∀ (V : World) (B : Nat) (K : Bkk), Bq V B K alS17 → Calls Try.prog 13 #[bptr K, .int .i64 0, .agg #[.int .i64 0, .int .i64 5]] V fun e w' => ∃ n, e = .returned (.tuple #[.int .i64 n, .nilIface]) ∧ Bq w' B K alS18 ∧ Frm (bkB K) V w' := fun V B K h => (baraise_ok 0 (0, 5) V h (by rw [al17_l]; omega) ⟨by unfold J64; omega, by unfold J64; omega⟩).mono (fun e w' ⟨h1, h2, h3⟩ => ⟨_, h1, h2, h3⟩)
  go_enter Try.func4, Try.ntmps4
  go_upto_region 4 with (first
    | (refine bsO3 rfl rfl (by simp only [List.map_toArray, List.map_cons, List.map_nil]; rfl) ?_; intro W1 hO1 b1)
    | (go_at_call 14; refine (rleast_any _).mono ?_; rintro e W2 ⟨rfl, b2⟩)
    | (go_at_call 5; refine (HBs _ _ (hO1.keep b2).er).mono ?_; rintro e W3 ⟨⟨K, K', R, rfl, hB3, hR3, hS3⟩, b3⟩))
  have hb3 := ab_trans (ab_trans b1 b2) b3
  have hs2 := (ab_trans b1 b2).size
  clear hR3 hS3 hO1 b1 b2 b3 HBs
  have hbk : ∀ k, bkB K k → k < W3.heap.size := fun k hk => (hB3.bks hk).2
  go_upto_region 5 with (first
    | (go_at_call 9; refine (HNx _ _ _ hB3).mono ?_; rintro e W4 ⟨⟨v4, e4', hO4⟩, b4⟩; obtain ⟨q4, c4, e4⟩ := hO4.form; rw [al17_b] at e4; subst e4; subst e4')
    | (refine al_blk rfl rfl (btA zBt (.slice none 0 0)) (zero_bt _) ?_; intro W5 e5 hX5 b5; clear e5)
    | (refine st_blk rfl rfl hX5 rfl (vs := #[.int .i64 3, .int .i64 0, .int .i64 (-9223372036854775808), .int .i64 (-9223372036854775808), .int .i64 0, .int .i64 5, .slice q4 2 c4]) rfl (info_bt alX17 q4 2 c4) rfl (bt_one alX17 q4 2 c4) ?_; intro W6 hX6 C6))
  have b46 := ab_chg b5 C6 (Nat.le_refl _)
  have hB6 := hB3.keep (ab_trans b4 b46)
  have hO6 := hO4.keep b46
  have hb6 := ab_trans hb3 (ab_trans b4 b46)
  have hs34 : W3.heap.size ≤ W4.heap.size := b4.size
  have x4 : W6.cell? ⟨W4.heap.size, 4, none⟩ = some (.int .i64 0) := hX6.at rfl
  have x5 : W6.cell? ⟨W4.heap.size, 5, none⟩ = some (.int .i64 5) := hX6.at rfl
  clear hX5 C6 b5 b46 hO4 hB3 hb3 HNx b4
  go_upto_region 6 with (go_at_call 13; refine (HRs _ _ _ hB6).mono ?_; rintro e W7 ⟨n7, rfl, hB7, hF7⟩)
  have hX7 := hX6.frm hF7 (fun e => by have := hbk _ e; omega)
  have hO7 : EO EE 63 W7 W3.heap.size (.slice q4 2 c4) alX17.en := own_at hO6 (fun g hg => hF7.other g (World.ownsRow.lt hO6 g hg).2 (fun e => by have := hbk g e; have := (World.ownsRow.lt hO6 g hg).1; omega))
  have hb7 : Below w.heap.size w W7 := hb6.trans (hF7.below hb6.size (fun k hk => Nat.le_trans hs2 (hB6.bks hk).1))
  clear hX6 hO6 hb6 hF7 hB6 x4 x5 HRs
  go_upto_region 7 with (first
    | (go_at_call 9; refine (HNy _ _ _ hB7).mono ?_; rintro e W8 ⟨⟨v8, e8, hO8⟩, b8⟩; obtain ⟨q8, c8, f8⟩ := hO8.form; rw [al17_d.1] at f8; rw [f8, al17_bt] at e8; subst e8)
    | (refine al_blk rfl rfl (btA zBt (.slice none 0 0)) (zero_bt _) ?_; intro W9 e9 hX9 b9; clear e9)
    | (refine st_blk rfl rfl hX9 rfl (vs := #[.int .i64 3, .int .i64 0, .int .i64 0, .int .i64 5, .int .i64 2, .int .i64 (-9223372036854775808), .slice q8 1 c8]) rfl (info_bt alX17 q8 1 c8) rfl (bt_one ⟨3, 0, (0, 5), (2, -9223372036854775808), []⟩ q8 1 c8) ?_; intro Wa hXa Ca))
  have b7a := ab_trans b8 (ab_chg b9 Ca (Nat.le_refl _))
  have hX10 := hX7.keep b7a
  have hO10 := hO7.keep b7a
  have hba := ab_trans hb7 b7a
  have hCk : ∀ V, Below Wa.heap.size Wa V → Calls Try.prog 10 #[.agg #[.int .i64 3, .int .i64 0, .int .i64 (-9223372036854775808), .int .i64 (-9223372036854775808), .int .i64 0, .int .i64 5, .slice q4 2 c4]] V fun e w' => e = .returned .nilIface ∧ Below V.heap.size V w' := fun V hV => (gcheck_any alX17 (.slice q4 2 c4) V (hO10.keep hV).er).mono (fun e w' ⟨h1, h2⟩ => ⟨by
    rcases h1 with ⟨_, h1⟩ | ⟨h1, _⟩
    · exact h1
    · exact absurd ((gkb_iff _).1 al17_e) h1, h2⟩)
  have p4 : Wa.cell? ⟨W4.heap.size, 4, none⟩ = some (.int .i64 0) := hX10.at rfl
  have p5 : Wa.cell? ⟨W4.heap.size, 5, none⟩ = some (.int .i64 5) := hX10.at rfl
  have p6 : Wa.cell? ⟨W4.heap.size, 6, none⟩ = some (.slice q4 2 c4) := hX10.at rfl
  have p0 : Wa.cell? ⟨W4.heap.size, 0, none⟩ = some (.int .i64 3) := hX10.at rfl
  have p1 : Wa.cell? ⟨W4.heap.size, 1, none⟩ = some (.int .i64 0) := hX10.at rfl
  have p2 : Wa.cell? ⟨W4.heap.size, 2, none⟩ = some (.int .i64 (-9223372036854775808)) := hX10.at rfl
  have p3 : Wa.cell? ⟨W4.heap.size, 3, none⟩ = some (.int .i64 (-9223372036854775808)) := hX10.at rfl
  have r2 : Wa.cell? ⟨W8.heap.size, 2, none⟩ = some (.int .i64 0) := hXa.at rfl
  have r3 : Wa.cell? ⟨W8.heap.size, 3, none⟩ = some (.int .i64 5) := hXa.at rfl
  have r4 : Wa.cell? ⟨W8.heap.size, 4, none⟩ = some (.int .i64 2) := hXa.at rfl
  have r5 : Wa.cell? ⟨W8.heap.size, 5, none⟩ = some (.int .i64 (-9223372036854775808)) := hXa.at rfl
  have r6 : Wa.cell? ⟨W8.heap.size, 6, none⟩ = some (.slice q8 1 c8) := hXa.at rfl
  have Hne := eqNE
  clear hX9 Ca b9 hX7 hO7 hb7 HNy hB7 b7a hX10 hO10 hXa hO8 b8
  go_wp2_with (go_at_call 10; refine (hCk _ (Below.refl _ _)).mono ?_; rintro e Wb ⟨rfl, bb⟩)
  go_ret
  exact ⟨rfl, ab_trans hba bb⟩
end Go.Proofs.Ytogbhiklhcibdaa
