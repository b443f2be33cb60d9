/-
  spring: one in memory; Rows, Stream; Open on a tape whose rows are operations from 1 on.
  spring: an operation is made sure and put, where there are few rows and the tape is up; Emit.
-/
import Derived.Test.YthmolbcnbcajdaaGreatPk49
import Derived.Test.YthmolbcnbcajdaaGreatPk26
import Derived.Test.YthmolbcnbcajdaaGreatPk40
namespace Go.Proofs.YthmolbcnbcajdaaGreat
open Go.RowKit
set_option linter.unusedVariables false
set_option maxRecDepth 100000

/-- The cells of a spring. -/
def sgC (d : Nat) (node chunk : Int) (sb : Nat) : Array Value := #[tptr d, .int .i64 node, .int .i64 chunk, sptr sb]
/-- A spring at block pb, its diary at d, its tape at b with its own bytes v, its stream at sb. -/
structure Sg (W : World) (base b : Nat) (v : Value) (d pb sb : Nat) (vr vh vc : Value) (T : TS) (nr nb : Nat) (node chunk : Int) (S : Sm) : Prop where
  tp : Tp W base b v T
  dy : Blk W d (dcs b nr nb) 91
  sp : Blk W pb (sgC d node chunk sb) 51
  st : Sq W base sb vr vh vc S
  gd : base ≤ d
  gp : base ≤ pb
theorem Sg.keep {W W' : World} {base b : Nat} {v : Value} {d pb sb : Nat} {vr vh vc : Value} {T : TS} {nr nb : Nat} {node chunk : Int} {S : Sm} (h : Sg W base b v d pb sb vr vh vc T nr nb node chunk S) (hb : Below W.heap.size W W') : Sg W' base b v d pb sb vr vh vc T nr nb node chunk S :=
  ⟨h.tp.keep hb, h.dy.keep hb, h.sp.keep hb, h.st.keep hb, h.gd, h.gp⟩
theorem sg_c {W : World} {pb d sb : Nat} {node chunk : Int} (h : Blk W pb (sgC d node chunk sb) 51) : W.cell? ⟨pb, 0, none⟩ = some (tptr d) ∧ W.cell? ⟨pb, 1, none⟩ = some (.int .i64 node) ∧ W.cell? ⟨pb, 2, none⟩ = some (.int .i64 chunk) ∧ W.cell? ⟨pb, 3, none⟩ = some (sptr sb) :=
  ⟨h.at (i := 0) rfl, h.at (i := 1) rfl, h.at (i := 2) rfl, h.at (i := 3) rfl⟩
theorem spwithin_any (n a m : Int) (w : World) : Calls Tryz.prog 18 #[.int .i64 n, .int .i64 a, .int .i64 m] w fun e w' => e = .returned (.bool (decide (a ≤ n ∧ n ≤ m))) ∧ w' = w := by
  by_cases c : a ≤ n
  · have HV : Hid (decide (n ≤ m) = decide (a ≤ n ∧ n ≤ m)) := by show _ = _; rw [decide_eq_decide]; omega
    go_enter Tryz.func18, Tryz.ntmps18
    go_wp2_with fail
    go_ret
    exact ⟨ret_bool HV.out, rfl⟩
  · have HV : Hid (false = decide (a ≤ n ∧ n ≤ m)) := by show _ = _; symm; exact decide_eq_false (by omega)
    go_enter Tryz.func18, Tryz.ntmps18
    go_wp2_with fail
    go_ret
    exact ⟨ret_bool (by simp; omega), rfl⟩
theorem sprows_any (b d pb sb nr nb : Nat) (node chunk : Int) (w : World) (hk : Blk w pb (sgC d node chunk sb) 51) (hD : Blk w d (dcs b nr nb) 91) :
    Calls Tryz.prog 10 #[tptr pb] w fun e w' => e = .returned (.int .i64 (nr : Int)) ∧ w' = w := by
  obtain ⟨c0, -⟩ := sg_c hk
  go_enter Tryz.func10, Tryz.ntmps10
  go_wp2_with (go_at_call 28; refine (dlen_any b d nr nb w hD).mono ?_; rintro e w ⟨rfl, rfl⟩)
  go_ret
  exact ⟨rfl, rfl⟩
theorem sprows_nil (w : World) : Calls Tryz.prog 10 #[.pointer none] w fun e w' => e = .returned (.int .i64 0) ∧ w' = w := by
  go_enter Tryz.func10, Tryz.ntmps10
  go_wp2_with fail
  go_ret
  exact ⟨rfl, rfl⟩
theorem spstream_nil (w : World) : Calls Tryz.prog 9 #[.pointer none] w fun e w' => e = .returned (.pointer none) ∧ w' = w := by
  go_enter Tryz.func9, Tryz.ntmps9
  go_wp2_with fail
  go_ret
  exact ⟨rfl, rfl⟩
theorem spstream_any {B d pb sb : Nat} {vr vh vc : Value} {S : Sm} {node chunk : Int} (w : World) (hk : Blk w pb (sgC d node chunk sb) 51) (h : Sq w B sb vr vh vc S) (hB : B ≤ w.heap.size) :
    Calls Tryz.prog 9 #[tptr pb] w fun e w' => ∃ b' vh' vc', e = .returned (sptr b') ∧ Sq w' B b' vr vh' vc' S ∧ (∀ k, bkS b' vh' vc' k → w.heap.size ≤ k) ∧ Below w.heap.size w w' := by
  obtain ⟨-, -, -, c3⟩ := sg_c hk
  go_enter Tryz.func9, Tryz.ntmps9
  go_wp2_with (go_at_call 27; refine (sclone_any w h hB).mono ?_; rintro e W1 ⟨b', vh', vc', rfl, h1, h2, b1⟩)
  go_ret
  exact ⟨b', vh', vc', rfl, h1, h2, b1⟩
theorem own_mvK {W W' : World} {base tb b e n k : Nat} {v v' x : Value} {S : TS} {xs : List Value} (h : W.ownsRow base e k x n xs) (hT : Tp W tb b v S) (m : Mv b W W' v v') (h1 : e ≠ 72) (h3 : e ≠ 5) : W'.ownsRow base e k x n xs :=
  own_at h fun g hg => m.other g (World.ownsRow.lt h g hg).2 (fun e' => h1 ((own_kindR h hg).uniq (e' ▸ hT.blk.kindR))) (fun e' => h3 ((own_kindR h hg).uniq (own_kindR hT.own e')))
/-- What kinds a stream's blocks have. -/
theorem Sq.kind3 {W : World} {B b : Nat} {vr vh vc : Value} {S : Sm} (h : Sq W B b vr vh vc S) {k : Nat} {t : TypeId} (hk : bkS b vh vc k) (ht : kindR W k t) : t = 76 ∨ t = 30 ∨ t = 85 := by
  rcases hk with rfl | hk | hk
  · exact .inl (ht.uniq h.blk.kindR)
  · exact .inr (.inl (ht.uniq (own_kindR h.he hk)))
  · exact .inr (.inr (ht.uniq (own_kindR h.ce hk)))
theorem Sq.less {W : World} {B B' b : Nat} {vr vh vc : Value} {S : Sm} (h : Sq W B b vr vh vc S) (hb : B' ≤ B) : Sq W B' b vr vh vc S := ⟨h.blk, Nat.le_trans hb h.ge, own_less h.re hb, own_less h.he hb, own_less h.ce hb, h.ok⟩
set_option maxHeartbeats 4000000 in
theorem spopen_ops (base b : Nat) (v : Value) (os : List Op5) (s n : Nat) (node chunk : Int) (vl : Value) (res : List Int) (sh hd : Int) (w : World) (hT : Tp w base b v (up (frms (os.map opB)) s n)) (hst : n < 4611686018427387000) (h0 : 0 ≤ node) (h9 : node ≤ 999) (hc1 : 1 ≤ chunk) (hc2 : chunk ≤ 16)
    (hv : Is w vl res) (hr : ∀ r ∈ res, r ≤ 9223372036854775807) (hg : goodF res sh hd = true) (hf : ∀ o ∈ os, Fit5 o)
    (hP : ∀ (k : Nat) (o : Op5), os[k]? = some o → putN (putsS (newS res sh hd) (os.take k)) o = 0 ∧ (putsS (newS res sh hd) (os.take k)).nx < 9223372036854775807 ∧ (putsS (newS res sh hd) (os.take k)).ho.length < 100000) (hl5 : os.length ≤ 100000) :
    Calls Tryz.prog 7 #[.int .i64 node, vl, .int .i64 sh, .int .i64 hd, .int .i64 chunk, tptr b] w fun e w' => ∃ d pb sb v' vr vh vc, e = .returned (.tuple #[tptr pb, .nilIface]) ∧ Sg w' base b v' d pb sb vr vh vc (up (frms (os.map opB)) s n) os.length (spN (os.map opB)) node chunk (putsS (newS res sh hd) os) ∧ w.heap.size ≤ d ∧ w.heap.size ≤ pb ∧ Mv b w w' v v' := by
  have hbase : base ≤ w.heap.size := Nat.le_of_lt hT.lt
  have hn := snew_ok vl res sh hd w hv hr hg
  have w1 : decide (0 ≤ node ∧ node ≤ 999) = true := decide_eq_true ⟨h0, h9⟩
  have w2 : decide (1 ≤ chunk ∧ chunk ≤ 16) = true := decide_eq_true ⟨hc1, hc2⟩
  obtain ⟨ql, cl, el⟩ := hv.form
  subst el
  have e2 := spn0
  have hrs : Rok (os.map opB) := fun r hr => by
    obtain ⟨o, -, rfl⟩ := List.mem_map.1 hr
    exact ⟨by have := opB_len o; omega, opB_byt o⟩
  clear hv hr hg
  go_enter Tryz.func7, Tryz.ntmps7
  go_upto_region 4 with (first
    | (go_at_call 17; refine hn.mono ?_; rintro e W1 ⟨sb, vr, vh, vc, rfl, h1, b1⟩)
    | (go_at_call 18; refine (spwithin_any _ _ _ _).mono ?_; rintro e W1' ⟨rfl, hW1'⟩; subst W1'; first | rw [w1] | rw [w2]))
  clear hn w1 w2
  have hT1 := hT.keep b1
  go_upto_region 7 with (go_at_call 19; refine (dopen_up base b v (os.map opB) s n W1 hT1 hst hrs).mono ?_; rintro e W2 ⟨d, q, c, vs, v', rfl, hd2, hD, hL, hT2, m2⟩)
  have hW1 : W1.heap.size ≤ W2.heap.size := m2.size
  have hS2 : Sq W2 w.heap.size sb vr vh vc (newS res sh hd) := ⟨h1.blk.mv hT1 m2 (by decide) (by decide), h1.ge, own_mvK h1.re hT1 m2 (by decide) (by decide), own_mvK h1.he hT1 m2 (by decide) (by decide), own_mvK h1.ce hT1 m2 (by decide) (by decide), h1.ok⟩
  have hlm : (os.map opB).length = os.length := List.length_map ..
  rw [hlm] at hL hD
  have hrd := read_ops q c W1.heap.size vs os W2 hS2 hL hf hP hl5
  go_upto_region 10 with (go_at_call 20; refine hrd.mono ?_; rintro e W3 ⟨rfl, vh3, h3, m3⟩)
  clear hrd hP hf
  have hT3 : Tp W3 base b v' (up (frms (os.map opB)) s n) := ⟨hT2.ge, hT2.blk.frm m3.frm (fun e => absurd (hS2.kind3 e hT2.blk.kindR) (by decide)), own_at hT2.own fun g hg => m3.frm.other g (World.ownsRow.lt hT2.own g hg).2 (fun e => (hS2.noB g e).1 (own_kindR hT2.own hg)), hT2.sure, hT2.max, hT2.bo, hT2.br⟩
  have hD3 : Blk W3 d (dcs b os.length (spN (os.map opB))) 91 := hD.frm m3.frm (fun e => absurd (hS2.kind3 e hD.kindR) (by decide))
  have mv3 : Mv b w W3 v v' := by
    have m12 := (mv_below v b1).trans m2
    refine ⟨m3.frm.os.trans m12.os, m3.frm.tape.trans m12.tape, m3.frm.output.trans m12.output, Nat.le_trans m12.size m3.frm.size, fun k hk hb hvk => ?_, m12.next⟩
    rw [m3.frm.other k (Nat.lt_of_lt_of_le hk m12.size) (fun e => by have := (hS2.bkge e).1; omega)]
    exact m12.other k hk hb hvk
  obtain ⟨W4, hE4, hX4, b4⟩ := blk1 W3 (sgC d node chunk sb) 51
  unfold sgC at hE4
  go_wp2_with fail
  go_ret2
  exact ⟨d, W3.heap.size, sb, v', vr, vh3, vc, rfl, ⟨hT3.keep b4, hD3.keep b4, hX4, (h3.keep b4).less hbase, Nat.le_trans hbase (Nat.le_trans b1.size hd2), Nat.le_trans hbase mv3.size⟩, Nat.le_trans b1.size hd2, mv3.size, mv3.trans (mv_below v' b4)⟩
end Go.Proofs.YthmolbcnbcajdaaGreat
namespace Go.Proofs.YthmolbcnbcajdaaGreat
open Go.RowKit
set_option linter.unusedVariables false
set_option maxRecDepth 100000

theorem own_mwK {W W' : World} {base tb b d nr ns e n k : Nat} {v v' x : Value} {S : TS} {xs : List Value} (h : W.ownsRow base e k x n xs) (hT : Tp W tb b v S) (hD : Blk W d (dcs b nr ns) 91) (m : Mw b d W W' v v') (h1 : e ≠ 72) (h2 : e ≠ 91) (h3 : e ≠ 5) : W'.ownsRow base e k x n xs :=
  own_at h fun g hg => m.other g (World.ownsRow.lt h g hg).2 (fun e' => h1 ((own_kindR h hg).uniq (e' ▸ hT.blk.kindR))) (fun e' => h2 ((own_kindR h hg).uniq (e' ▸ hD.kindR))) (fun e' => h3 ((own_kindR h hg).uniq (own_kindR hT.own e')))
theorem blk_mwK {W W' : World} {tb b d nr ns g : Nat} {v v' : Value} {S : TS} {xs : Array Value} {t : TypeId} (h : Blk W g xs t) (hT : Tp W tb b v S) (hD : Blk W d (dcs b nr ns) 91) (m : Mw b d W W' v v') (h1 : t ≠ 72) (h2 : t ≠ 91) (h3 : t ≠ 5) : Blk W' g xs t :=
  m.blk h (blk_ne h hT.blk h1) (blk_ne h hD h2) (blk_own hT.own h h3)
theorem Sq.mw {W W' : World} {B sb tb b d nr ns : Nat} {vr vh vc v v' : Value} {S : Sm} {T : TS} (h : Sq W B sb vr vh vc S) (hT : Tp W tb b v T) (hD : Blk W d (dcs b nr ns) 91) (m : Mw b d W W' v v') : Sq W' B sb vr vh vc S :=
  ⟨blk_mwK h.blk hT hD m (by decide) (by decide) (by decide), h.ge, own_mwK h.re hT hD m (by decide) (by decide) (by decide), own_mwK h.he hT hD m (by decide) (by decide) (by decide), own_mwK h.ce hT hD m (by decide) (by decide) (by decide), h.ok⟩
/-- A tape beside a stream that turns. -/
theorem Tp.ms {W W' : World} {B sb tb b : Nat} {vr vh vh' vc v : Value} {S : Sm} {T : TS} (h : Tp W tb b v T) (hS : Sq W B sb vr vh vc S) (m : Ms sb vc W W' vh vh') : Tp W' tb b v T :=
  ⟨h.ge, h.blk.frm m.frm (fun e => absurd (hS.kind3 e h.blk.kindR) (by decide)), own_at h.own fun g hg => m.frm.other g (World.ownsRow.lt h.own g hg).2 (fun e => (hS.noB g e).1 (own_kindR h.own hg)), h.sure, h.max, h.bo, h.br⟩
theorem mw_base {W W' : World} {base b d : Nat} {v v' : Value} {S : TS} (m : Mw b d W W' v v') (hT : Tp W base b v S) (hd : base ≤ d) : Below base W W' :=
  ⟨m.os, m.tape, m.output, m.size, fun k hk => m.other k (Nat.lt_trans hk hT.lt) (by have := hT.ge; omega) (by omega) (fun e => by have := (hT.own.lt k e).1; omega)⟩
/-- A spring beside the box of an operation that turns. -/
theorem Sg.chgO {W W' : World} {base b g : Nat} {v : Value} {d pb sb : Nat} {vr vh vc : Value} {T : TS} {nr nb : Nat} {node chunk : Int} {S : Sm} {k0 : Op5} (h : Sg W base b v d pb sb vr vh vc T nr nb node chunk S) (hG : Blk W g (opA k0) 30) (hn : ¬ bkS sb vh vc g) (c : Chg g W W') : Sg W' base b v d pb sb vr vh vc T nr nb node chunk S := by
  have hf : Frm (fun k => k = g) W W' := frm_chg c rfl
  refine ⟨⟨h.tp.ge, h.tp.blk.frm hf (fun e => absurd (h.tp.blk.kindR.uniq (e ▸ hG.kindR)) (by decide)), own_at h.tp.own fun k hk => hf.other k (World.ownsRow.lt h.tp.own k hk).2 (fun e => absurd ((own_kindR h.tp.own hk).uniq (e ▸ hG.kindR)) (by decide)), h.tp.sure, h.tp.max, h.tp.bo, h.tp.br⟩, h.dy.frm hf (fun e => absurd (h.dy.kindR.uniq (e ▸ hG.kindR)) (by decide)), h.sp.frm hf (fun e => absurd (h.sp.kindR.uniq (e ▸ hG.kindR)) (by decide)), h.st.frm hf (fun k hk e => hn (e ▸ hk)) (fun k hk hi => absurd (hG.kindR.uniq (hk ▸ hi)) (by decide)), h.gd, h.gp⟩
/-- What a spring's calls may turn. -/
def bkG (b d sb : Nat) (v vh vc : Value) (k : Nat) : Prop := k = b ∨ v.ownBlock = some k ∨ k = d ∨ bkS sb vh vc k
theorem Mw.frmG {W W' : World} {b d : Nat} {v v' : Value} (m : Mw b d W W' v v') (sb : Nat) (vh vc : Value) : Frm (bkG b d sb v vh vc) W W' :=
  ⟨m.os, m.tape, m.output, m.size, fun k hk hx => m.other k hk (fun e => hx (.inl e)) (fun e => hx (.inr (.inr (.inl e)))) (fun e => hx (.inr (.inl e)))⟩
theorem Sg.freshG {W : World} {base b : Nat} {v : Value} {d pb sb : Nat} {vr vh vc : Value} {T : TS} {nr nb : Nat} {node chunk : Int} {S : Sm} (h : Sg W base b v d pb sb vr vh vc T nr nb node chunk S) {x : Nat} (hx : W.heap.size ≤ x) : ¬ bkG b d sb v vh vc x := fun hk => by
  rcases hk with rfl | hk | rfl | hk
  · have := h.tp.blk.lt; omega
  · have := (World.ownsRow.lt h.tp.own x hk).2; omega
  · have := h.dy.lt; omega
  · exact h.st.fresh hx hk
set_option maxHeartbeats 4000000 in
theorem spkeep_up (base b : Nat) (v : Value) (d pb sb : Nat) (vr vh vc : Value) (l : List Nat) (s n nr nb : Nat) (node chunk : Int) (S : Sm) (o : Op5) (w : World) (h : Sg w base b v d pb sb vr vh vc (up l s n) nr nb node chunk S) (hst : n < 4611686018427387000) (hnr : nr ≤ 300) (hnb : nb ≤ 4611686018427387904) (hf : Fit5 o) (hp : putN S o = 0) (hnx : S.nx < 9223372036854775807) (hho : S.ho.length < 100000) (hfit : l.length + (8 + (opB o).length) ≤ 1048576) :
    Calls Tryz.prog 15 #[tptr pb, opV o] w fun e w' => e = .returned (.tuple #[opV o, .nilIface]) ∧ ∃ v' vh', Sg w' base b v' d pb sb vr vh' vc (up (l ++ frm (opB o)) (l.length + (8 + (opB o).length)) (n + 2)) (nr + 1) (nb + (8 + (opB o).length)) node chunk (putS S o) ∧ Below base w w' ∧ Frm (bkG b d sb v vh vc) w w' ∧ ∀ r, vh'.ownBlock = some r → vh.ownBlock = some r ∨ w.heap.size ≤ r := by
  have hbase : base ≤ w.heap.size := Nat.le_of_lt h.tp.lt
  obtain ⟨A, hE, hX, hw⟩ := blk1 w (opA o) 30
  obtain ⟨Z, hEz, hZ, hz⟩ := blk1 A (opA zOp) 30
  have hwz := ab_trans hw hz
  have hXZ := hX.keep hz
  have hZs := h.keep hwz
  have hfr0 : ¬ bkS sb vh vc w.heap.size := h.st.fresh (Nat.le_refl _)
  have hfr1 : ¬ bkS sb vh vc A.heap.size := h.st.fresh hw.size
  have i1 : ¬ 300 < (nr : Int) := by omega
  obtain ⟨c0, -, -, c3⟩ := sg_c hZs.sp
  have hdl := dlen_any b d nr nb Z hZs.dy
  unfold opA at hE
  unfold opA zOp at hEz
  unfold opV opA
  dsimp only at hEz ⊢
  go_enter Tryz.func15, Tryz.ntmps15
  go_upto_region 5 with (go_at_call 28; refine hdl.mono ?_; rintro e Z' ⟨rfl, hZ'⟩; subst Z')
  clear c0 c3 i1 hdl hE hEz
  refine region_L 6 (S := fun w' => Below Z.heap.size Z w') (by kernel_rfl) ((Below.refl _ _).drew) (fun hHeld => ?_)
  have hdr : Below Z.heap.size Z Z.drew := hHeld
  generalize Z.drew = V0 at *
  refine takeP (i := 0) (some 29) (by rfl) rfl rfl (by kernel_rfl) (by kernel_rfl) (by kernel_rfl) (fun _ _ _ h => h) (by rfl) (fun w => by go_simp; try rfl) hHeld ?_
  go_frame
  refine takeP (i := 1) (some 30) (by rfl) rfl rfl (by kernel_rfl) (by kernel_rfl) (by kernel_rfl) (fun _ _ _ h => h) (by rfl) (fun w => by go_simp; try rfl) hHeld ?_
  go_frame
  refine takeP (i := 2) (some 31) (by rfl) rfl rfl (by kernel_rfl) (by kernel_rfl) (by kernel_rfl) (fun _ _ _ h => h) (by rfl) (fun w => by go_simp; try rfl) hHeld ?_
  go_frame
  refine takeL (i := 3) [6] (some 32) (by rfl) rfl rfl (by kernel_rfl) (by kernel_rfl) (by kernel_rfl) (by kernel_rfl) (fun _ _ _ h => h) (by rfl) (fun w hSw => by (try dsimp only at hSw); (have hh := (sg_c (hZs.sp.keep hSw)).1; go_simp; try rfl)) hHeld ?_
  go_frame
  refine takeL (i := 4) [5, 6] (some 33) (by rfl) rfl rfl (by kernel_rfl) (by kernel_rfl) (by kernel_rfl) (by kernel_rfl) (fun _ _ _ h => h) (by rfl) (fun w hSw => by (try dsimp only at hSw); (have hh := hXZ.keep hSw; have t0 : w.cell? ⟨_, 0, none⟩ = some (.int .i64 o.s) := hh.at rfl; have t1 : w.cell? ⟨_, 1, none⟩ = some (.int .i64 o.k) := hh.at rfl; have t2 : w.cell? ⟨_, 2, none⟩ = some (.int .i64 o.t) := hh.at rfl; have t3 : w.cell? ⟨_, 3, none⟩ = some (.int .i64 o.y) := hh.at rfl; have t4 : w.cell? ⟨_, 4, none⟩ = some (.int .i64 o.v) := hh.at rfl; go_simp; try rfl)) hHeld ?_
  go_frame
  refine anyL_ready (rs := [5]) (by kernel_rfl) (by simp) (AllL.cons rfl (fun K hK => ?_) AllL.nil)
  go_simp
  refine (opRow_any o V0 hf).mono ?_
  rintro e W1 ⟨v1, rfl, O1, b1⟩
  show K _ _
  have hb1 := ab_trans hdr b1
  refine hK.out _ _ hb1 (fun hHeld => ?_)
  clear hK K
  try go_frame
  refine anyL_ready (rs := [6]) (by kernel_rfl) (by simp) (AllL.last rfl (by kernel_rfl) (fun K hK => ?_))
  go_simp
  have hg1 := hZs.keep hb1
  refine (dadd_up base b d nr nb v v1 l (opB o) s n W1 hg1.tp hst hg1.dy O1.sl (opB_byt o) (by have := opB_len o; omega) (by omega) hnb hfit).mono ?_
  rintro e W2 ⟨rfl, v', hT2, mw, hD2⟩
  have hS2 := hg1.st.mw hg1.tp hg1.dy mw
  have hP2 := blk_mwK hg1.sp hg1.tp hg1.dy mw (by decide) (by decide) (by decide)
  have hX2 := blk_mwK (hXZ.keep hb1) hg1.tp hg1.dy mw (by decide) (by decide) (by decide)
  have hZ2 := blk_mwK (hZ.keep hb1) hg1.tp hg1.dy mw (by decide) (by decide) (by decide)
  have hb2 : Below base w W2 := ((ab_trans hwz hb1).mono hbase).trans (mw_base mw hg1.tp hg1.gd)
  show K _ _
  refine hK.out _ _ ?_
  clear hK K
  try go_frame
  refine anyL_ready (rs := [7]) (by kernel_rfl) (by simp) (AllL.free rfl (by kernel_rfl) (fun K hK => ?_))
  go_simp
  refine hK.out _ _ ?_
  clear hK K
  refine anyL_done (by kernel_rfl) ?_
  have E1 := spn0
  go_upto_region 8 with fail
  clear E1
  refine region_L 5 (S := fun w' => Below W2.heap.size W2 w') (by kernel_rfl) ((Below.refl _ _).drew) (fun hHeld => ?_)
  have hd2 : Below W2.heap.size W2 W2.drew := hHeld
  generalize W2.drew = V3 at *
  refine takeP (i := 0) (some 40) (by rfl) rfl rfl (by kernel_rfl) (by kernel_rfl) (by kernel_rfl) (fun _ _ _ h => h) (by rfl) (fun w => by go_simp; try rfl) hHeld ?_
  go_frame
  refine takeP (i := 1) (some 41) (by rfl) rfl rfl (by kernel_rfl) (by kernel_rfl) (by kernel_rfl) (fun _ _ _ h => h) (by rfl) (fun w => by go_simp; try rfl) hHeld ?_
  go_frame
  refine takeP (i := 2) (some 42) (by rfl) rfl rfl (by kernel_rfl) (by kernel_rfl) (by kernel_rfl) (fun _ _ _ h => h) (by rfl) (fun w => by go_simp; try rfl) hHeld ?_
  go_frame
  refine takeL (i := 3) [5] (some 43) (by rfl) rfl rfl (by kernel_rfl) (by kernel_rfl) (by kernel_rfl) (by kernel_rfl) (fun _ _ _ h => h) (by rfl) (fun w hSw => by (try dsimp only at hSw); (have hh := (sg_c (hP2.keep hSw)).2.2.2; go_simp; try rfl)) hHeld ?_
  go_frame
  refine takeL (i := 4) [5] (some 44) (by rfl) rfl rfl (by kernel_rfl) (by kernel_rfl) (by kernel_rfl) (by kernel_rfl) (fun _ _ _ h => h) (by rfl) (fun w hSw => by (try dsimp only at hSw); (have hh := hX2.keep hSw; have t0 : w.cell? ⟨_, 0, none⟩ = some (.int .i64 o.s) := hh.at rfl; have t1 : w.cell? ⟨_, 1, none⟩ = some (.int .i64 o.k) := hh.at rfl; have t2 : w.cell? ⟨_, 2, none⟩ = some (.int .i64 o.t) := hh.at rfl; have t3 : w.cell? ⟨_, 3, none⟩ = some (.int .i64 o.y) := hh.at rfl; have t4 : w.cell? ⟨_, 4, none⟩ = some (.int .i64 o.v) := hh.at rfl; go_simp; try rfl)) hHeld ?_
  go_frame
  refine anyL_ready (rs := [5]) (by kernel_rfl) (by simp) (AllL.last rfl (by kernel_rfl) (fun K hK => ?_))
  go_simp
  have hS3 := hS2.keep hd2
  have hcp := sput_any o V3 hS3 hf hnx hho
  rw [hp] at hcp
  unfold opV opA at hcp
  rw [show errV 0 = .nilIface from rfl] at hcp
  refine hcp.mono ?_
  rintro e W4 ⟨rfl, vh4, h4, m4⟩
  have hX4 := (hX2.keep hd2).frm m4.frm hfr0
  have hZ4 := (hZ2.keep hd2).frm m4.frm hfr1
  have hP4 := (hP2.keep hd2).frm m4.frm (fun e => absurd (hS3.kind3 e (hP2.keep hd2).kindR) (by decide))
  have hD4 := (hD2.keep hd2).frm m4.frm (fun e => absurd (hS3.kind3 e (hD2.keep hd2).kindR) (by decide))
  have hT4 := (hT2.keep hd2).ms hS3 m4
  have hb4 : Below base w W4 := (hb2.trans (hd2.mono (Nat.le_trans hbase hb2.size))).trans (m4.frm.below (Nat.le_trans hbase (Nat.le_trans hb2.size hd2.size)) (fun k hk => (hS3.bkge hk).1))
  show K _ _
  refine hK.out _ _ ?_
  clear hK K hcp
  try go_frame
  refine anyL_ready (rs := [6]) (by kernel_rfl) (by simp) (AllL.free rfl (by kernel_rfl) (fun K hK => ?_))
  go_simp
  refine hK.out _ _ ?_
  clear hK K
  refine anyL_done (by kernel_rfl) ?_
  have E1 := spn0
  have t0 : W4.cell? ⟨w.heap.size, 0, none⟩ = some (.int .i64 o.s) := hX4.at rfl
  have t1 : W4.cell? ⟨w.heap.size, 1, none⟩ = some (.int .i64 o.k) := hX4.at rfl
  have t2 : W4.cell? ⟨w.heap.size, 2, none⟩ = some (.int .i64 o.t) := hX4.at rfl
  have t3 : W4.cell? ⟨w.heap.size, 3, none⟩ = some (.int .i64 o.y) := hX4.at rfl
  have t4 : W4.cell? ⟨w.heap.size, 4, none⟩ = some (.int .i64 o.v) := hX4.at rfl
  go_wp2_with (refine st_op rfl rfl (k1 := o) hZ4 rfl rfl ?_; intro W5 hB5 C5)
  have hF3 : Frm (bkG b d sb v vh vc) w V3 := ((frm_below (ab_trans hwz hb1)).trans (mw.frmG sb vh vc)).trans (frm_below hd2)
  have hF4 : Frm (bkG b d sb v vh vc) w W4 := hF3.trans (m4.frm.mono (fun k hk => .inr (.inr (.inr hk))))
  have hfr4 := m4.out hfr1 (Nat.lt_of_lt_of_le (Nat.lt_of_lt_of_le hZ2.lt hd2.size) (Nat.le_refl _))
  have hSg4 : Sg W4 base b v' d pb sb vr vh4 vc (up (l ++ frm (opB o)) (l.length + (8 + (opB o).length)) (n + 2)) (nr + 1) (nb + (8 + (opB o).length)) node chunk (putS S o) := ⟨hT4, hD4, hP4, h4, h.gd, h.gp⟩
  exact bodyPost_ret (results_c2 rfl _ _ _ 30 _ (0, 0) _ .nilIface rfl rfl hB5 Tryz.underlying30 rfl (info_op5 o)) rfl ⟨rfl, v', vh4, hSg4.chgO hZ4 hfr4 C5, hb4.trans (C5.below (Nat.le_trans hbase hw.size)), hF4.young (frm_chg (X := fun k => k = A.heap.size) C5 rfl) (fun k hk e => by have := hw.size; omega), fun r hr => (m4.nh r hr).imp_right (fun h3 => Nat.le_trans hF3.size h3)⟩
/-- Emit of a sample that is put. -/
theorem spemit_up (base b : Nat) (v : Value) (d pb sb : Nat) (vr vh vc : Value) (l : List Nat) (s n nr nb : Nat) (node chunk : Int) (S : Sm) (t y z : Int) (w : World) (h : Sg w base b v d pb sb vr vh vc (up l s n) nr nb node chunk S) (hst : n < 4611686018427387000) (hnr : nr ≤ 300) (hnb : nb ≤ 4611686018427387904) (hN : sampN S t = 0) (hf : Fit5 (sampO S t y z)) (hp : putN S (sampO S t y z) = 0) (hnx : S.nx < 9223372036854775807) (hho : S.ho.length < 100000) (hfit : l.length + (8 + (opB (sampO S t y z)).length) ≤ 1048576) :
    Calls Tryz.prog 5 #[tptr pb, .int .i64 t, .int .i64 y, .int .i64 z] w fun e w' => e = .returned (.tuple #[opV (sampO S t y z), .nilIface]) ∧ ∃ v' vh', Sg w' base b v' d pb sb vr vh' vc (up (l ++ frm (opB (sampO S t y z))) (l.length + (8 + (opB (sampO S t y z)).length)) (n + 2)) (nr + 1) (nb + (8 + (opB (sampO S t y z)).length)) node chunk (putS S (sampO S t y z)) ∧ Below base w w' ∧ Frm (bkG b d sb v vh vc) w w' ∧ ∀ r, vh'.ownBlock = some r → vh.ownBlock = some r ∨ w.heap.size ≤ r := by
  have hbase : base ≤ w.heap.size := Nat.le_of_lt h.tp.lt
  obtain ⟨R, hER, hR, hwR⟩ := blk1 w (opA zOp) 30
  have hgR := h.keep hwR
  have hfr0 : ¬ bkS sb vh vc w.heap.size := h.st.fresh (Nat.le_refl _)
  obtain ⟨-, -, -, c3⟩ := sg_c hgR.sp
  have hcs := ssample_any t y z R hgR.st
  rw [hN] at hcs
  generalize ho : sampO S t y z = o at *
  clear ho hN
  unfold opV opA at hcs
  rw [show errV 0 = .nilIface from rfl] at hcs
  unfold opA zOp at hER
  dsimp only at hER
  have E1 := spn0
  go_enter Tryz.func5, Tryz.ntmps5
  go_upto_region 6 with (first
    | (go_at_call 14; refine hcs.mono ?_; rintro e W4 ⟨rfl, b4⟩; obtain ⟨Z4, hE4, hZ4, hz4⟩ := blk1 W4 (opA zOp) 30; unfold opA zOp at hE4; dsimp only at hE4)
    | (refine st_op rfl rfl (k1 := o) hZ4 rfl rfl ?_; intro W5 hX5 C5))
  have hb5 : Below R.heap.size R W5 := ab_chg (ab_trans b4 hz4) C5 (Nat.le_trans b4.size (Nat.le_refl _))
  have hg5 := hgR.keep hb5
  have hR5 := hR.keep hb5
  have u0 : W5.cell? ⟨W4.heap.size, 0, none⟩ = some (.int .i64 o.s) := hX5.at rfl
  have u1 : W5.cell? ⟨W4.heap.size, 1, none⟩ = some (.int .i64 o.k) := hX5.at rfl
  have u2 : W5.cell? ⟨W4.heap.size, 2, none⟩ = some (.int .i64 o.t) := hX5.at rfl
  have u3 : W5.cell? ⟨W4.heap.size, 3, none⟩ = some (.int .i64 o.y) := hX5.at rfl
  have u4 : W5.cell? ⟨W4.heap.size, 4, none⟩ = some (.int .i64 o.v) := hX5.at rfl
  have hk := spkeep_up base b v d pb sb vr vh vc l s n nr nb node chunk S o W5 hg5 hst hnr hnb hf hp hnx hho hfit
  unfold opV opA at hk
  clear hcs hE4 hZ4 hz4 C5 hX5 c3 E1
  have hnG : ¬ bkG b d sb v vh vc w.heap.size := h.freshG (Nat.le_refl _)
  go_wp2_with (first
    | (go_at_call 15; refine hk.mono ?_; rintro e W6 ⟨rfl, v6, vh6, hg6, b6, f6, n6⟩; have hR6 := hR5.frm f6 hnG)
    | (refine st_op rfl rfl (k1 := o) hR6 rfl rfl ?_; intro W7 hB7 C7))
  have hfr6 : ¬ bkS sb vh6 vc w.heap.size := by
    rintro (e | e | e)
    · exact hfr0 (.inl e)
    · rcases n6 _ e with e | e
      · exact hfr0 (.inr (.inl e))
      · have := hR5.lt; omega
    · exact hfr0 (.inr (.inr e))
  have hF5 : Frm (bkG b d sb v vh vc) w W5 := frm_below (ab_trans hwR hb5)
  exact bodyPost_ret (results_c2 rfl _ _ _ 30 _ (0, 0) _ .nilIface rfl rfl hB7 Tryz.underlying30 rfl (info_op5 o)) rfl ⟨rfl, v6, vh6, hg6.chgO hR6 hfr6 C7, ((ab_trans hwR hb5).mono hbase).trans (b6.trans (C7.below hbase)), (hF5.trans f6).young (frm_chg (X := fun k => k = w.heap.size) C7 rfl) (fun k hk e => by omega), fun r hr => (n6 r hr).imp_right (fun h3 => Nat.le_trans hF5.size h3)⟩
end Go.Proofs.YthmolbcnbcajdaaGreat
