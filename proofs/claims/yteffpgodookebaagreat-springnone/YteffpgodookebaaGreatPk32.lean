/-
  stream.insert where an operation comes behind the others; Put.
-/
import Derived.Test.YteffpgodookebaaGreatPk27
import Derived.Test.YteffpgodookebaaGreatPk15
import Derived.Test.YteffpgodookebaaGreatPk06
namespace Go.Proofs.YteffpgodookebaaGreat
open Go.RowKit
set_option linter.unusedVariables false
set_option maxRecDepth 100000

section
variable {P : Program} {α : Type} {E : En α} {ops : Array Oper} {rest : List Oper} {o : Oper} {a : Act} {w : World} {Q : Exit → Act → World → Prop}
/-- append onto an own slice, whose block is told. -/
theorem appe_run (base : Nat) {t e ty : TypeId} {bytes : Nat} {z : Value} (ht : P.underlying t = some (.slice e)) (hinf : (P.info? e).map (fun i => (i.zero, i.size, i.bytes)) = some (some z, E.k, bytes)) (hz : z.cells.size = E.k)
    {v vx : Value} {l m : List α} (hown : EO E e w base v l) (hsl : ER E w vx m) (h63 : l.length + m.length ≤ 1000000000) (hbytes : (l.length + m.length) * bytes ≤ 140737488355328) (hA : base ≤ w.heap.size) :
    ∃ v' w', (Builtin.append_ #[t, t] ty #[v, vx]).run P w = .ok v' w' ∧ EO E e w' base v' (l ++ m) ∧ w.grownBy w' v.ownBlock ∧ (v'.ownBlock = v.ownBlock ∨ v'.ownBlock = some w.heap.size) := by
  obtain ⟨i, hi, hz0, hz1, hz2⟩ := info_parts hinf
  obtain ⟨q, cap, rfl, hq, hsrc⟩ := hsl.src
  cases q with
  | none =>
    have h0 := hq rfl
    have hm0 : m = [] := List.eq_nil_of_length_eq_zero h0
    subst hm0
    exact ⟨v, w, append_none (P := P) w base t ty e i E.k cap ht hi v l.length (E.fl l) hown, by simpa using hown, ⟨rfl, rfl, rfl, Nat.le_refl _, fun _ _ _ => rfl⟩, .inl rfl⟩
  | some ad =>
    obtain ⟨v', w', hr, h2, h3, h4, h5⟩ := run_append_own_at (P := P) w base t ty e i _ E.k bytes ht hi hz0 hz1 hz2 hz E.pos v l.length (E.fl l) hown ad m.length cap (E.fl m) (E.fl_len m) (hsrc ad rfl) (E.fl_cell m) (by unfold maxLen; omega) hbytes hA
    rw [← E.fl_append] at h2
    exact ⟨v', w', hr, eo_of h2, h3, h5⟩
theorem app_eB (base : Nat) (hw : Region.wanted o (yielded ops a.tmps) = true) {s x : Operand} {t e : TypeId} {bytes : Nat} {z : Value} (ho : o.op = .call { callee := .builtin .append, args := #[s, x], argTypes := #[t, t] })
    (ht : P.underlying t = some (.slice e)) (hinf : (P.info? e).map (fun i => (i.zero, i.size, i.bytes)) = some (some z, E.k, bytes)) (hz : z.cells.size = E.k)
    {v vx : Value} {l m : List α} (hs : a.eval s = v) (hown : EO E e w base v l) (hx : a.eval x = vx) (hsl : ER E w vx m) (h63 : l.length + m.length ≤ 1000000000) (hbytes : (l.length + m.length) * bytes ≤ 140737488355328) (hA : base ≤ w.heap.size)
    (h : ∀ v' w', EO E e w' base v' (l ++ m) → w.grownBy w' v.ownBlock → (v'.ownBlock = v.ownBlock ∨ v'.ownBlock = some w.heap.size) → wpList P ops Q rest (a.put o.dst v') w') : wpList P ops Q (o :: rest) a w := by
  obtain ⟨v', w', hr, h1, h2, h3⟩ := appe_run (ty := o.type) base ht hinf hz hown hsl h63 hbytes hA
  unfold wpList
  rw [if_pos hw]
  left
  unfold Oper.wp execOp
  simp only [ho, resolve, invoke, builtin, Sem.run_bind, Sem.run_pure, Result.andThen_ok, List.map_toArray, List.map_cons, List.map_nil, hs, hx, hr]
  exact h v' w' h1 h2 h3
/-- 'x[l:]' of any slice: its run. -/
theorem slq_l {ρ : Operand → Value} {t : TypeId} {x y : Operand} (ho : o.op = .slice t x (some y) none none) {q : Option Addr} {n cap l sz : Nat} {L : Int}
    (hx : ρ x = .slice q n cap) (hy : ρ y = .int .i64 L) (hL : L = (l : Int))
    (ht : P.underlying t = some (.slice (P.elem t))) (hs : (sizeOf (P.elem t)).run P w = .ok sz w) (h1 : l ≤ n) (h2 : n ≤ cap) : (execOp ρ o).run P w = .ok (.value (sliced q l n cap sz)) w := by
  subst hL
  unfold execOp
  simp only [ho, hx, hy, Option.map_some, Option.map_none, Sem.run_bind, run_sliceAt_slice w t _ _ _ _ ht, run_slice_l w t q n cap ht _ (l : Int) (by omega) (by omega), hs, Result.andThen_ok, Sem.run_pure, Int.toNat_natCast]
end
theorem frm_grownV {A B : World} {v : Value} (h : A.grownBy B v.ownBlock) : Frm (fun k => v.ownBlock = some k) A B :=
  ⟨h.os, h.tape, h.output, h.size, fun i hi hx => h.block i hi (fun e => hx (by rw [e]))⟩
theorem eltO : Tryz.prog.underlying 42 = some (.slice (Tryz.prog.elem 42)) := by kernel_rfl
theorem sizeO (w : World) : (sizeOf (Tryz.prog.elem 42)).run Tryz.prog w = .ok 5 w := by kernel_rfl
theorem bop1 (o : Op5) (w : World) : (Instr.buildSlice 42 1 #[(0, opV o)]).run Tryz.prog w = .ok (.slice (some ⟨w.heap.size, 0, none⟩) 1 1) (w.alloc (.cells (opA o) 49)) := by kernel_rfl
theorem bopW {o : Oper} {a : Act} {w : World} {K : Act → World → Prop} {Q : Exit → Act → World → Prop} (d : Option Tmp) (hd : o.dst = d) {parts : Array (Nat × Operand)} (ho : o.op = .buildSlice 42 1 parts) (x : Op5)
    (hl : parts.map (fun (i, x) => (i, a.eval x)) = #[(0, opV x)])
    (h : ∀ W', Blk W' w.heap.size (opA x) 49 → Below w.heap.size w W' → K (a.put d (.slice (some ⟨w.heap.size, 0, none⟩) 1 1)) W') : o.wp Tryz.prog a w K Q := by
  subst hd
  unfold Oper.wp execOp
  simp only [ho, Sem.run_bind, hl, bop1, Result.andThen_ok]
  exact h _ (Blk.new _ _ _) ((Below.refl _ _).alloc (Nat.le_refl _) _)
/-- A slice of one operation. -/
theorem er_one {W : World} {g : Nat} {o : Op5} (h : Blk W g (opA o) 49) : ER E5 W (.slice (some ⟨g, 0, none⟩) 1 1) [o] :=
  ⟨_, 1, g, 0, rfl, Nat.le_refl _, by omega, fun _ => ⟨rfl, h.lt⟩, fun j u hu => by
    rw [Nat.zero_add, h.cell]
    rw [E5.fl_one1] at hu
    have : (opA o).toList[j]? = some u := hu
    simpa using this⟩
set_option maxHeartbeats 2000000 in
theorem sinsert_end (l : List Op5) (o : Op5) (v : Value) (g B : Nat) (w : World) (hO : EO E5 49 w B v l) (hP : Blk w g (opA o) 49) (hl : l.length ≤ 100000) (hB : B ≤ w.heap.size) :
    Calls Tryz.prog 156 #[v, .int .i64 (l.length : Int), .slice (some ⟨g, 0, none⟩) 1 1] w fun e w' => ∃ v', e = .returned v' ∧ EO E5 49 w' B v' (l ++ [o]) ∧ Frm (fun k => v.ownBlock = some k) w w' ∧ ∀ r, v'.ownBlock = some r → v.ownBlock = some r ∨ w.heap.size ≤ r := by
  obtain ⟨q, cap, g0, off, rfl, hc, hm, hp, -⟩ := hO.er
  have HO : Hid (EO E5 49 w B (.slice q l.length cap) l) := hO
  have HP : Hid (ER E5 w (.slice (some ⟨g, 0, none⟩) 1 1) [o]) := er_one hP
  clear hO hP hp
  generalize hn : l.length = n at *
  obtain ⟨sv, hsv⟩ : ∃ sv, sliced q n n cap 5 = sv := ⟨_, rfl⟩
  have HSV : Hid (sliced q n n cap 5 = sv) := hsv
  clear hsv
  go_enter Tryz.func156, Tryz.ntmps156
  go_wp2_with (first
    | (refine valS rfl sv ((slq_l rfl rfl rfl rfl eltO (sizeO _) (Nat.le_refl n) hc).trans (by rw [HSV.out])) ?_)
    | (at_builtin; refine app_eB B rfl rfl Tryz.underlying42 infoOp5 rfl (v := .slice q n cap) rfl HO.out rfl HP.out (by simp; omega) (by simp; omega) hB ?_; intro v' W' hown hg hat))
  go_ret
  refine ⟨v', rfl, hown, frm_grownV hg, fun r hr => ?_⟩
  rcases hat with e | e
  · exact .inl (by rw [← e]; exact hr)
  · rw [e] at hr; cases hr; exact .inr (Nat.le_refl _)
/-- insert of an operation that comes behind the others. -/
theorem sfnd_end {l : List Op5} {sq : Int} (h : ∀ o ∈ l, o.s < sq) {i : Nat} (hF : FndP l sq i) : i = l.length := by
  rcases Nat.lt_or_ge i l.length with c | c
  · have := hF.hi i _ (List.getElem?_eq_getElem c) (Nat.le_refl _)
    have := h _ (List.getElem_mem c)
    omega
  · have := hF.le; omega
set_option maxHeartbeats 4000000 in
theorem sinsert_any (l : List Op5) (o : Op5) (v : Value) (B : Nat) (w : World) (hO : EO E5 49 w B v l) (hl : l.length ≤ 100000) (hs : l.Pairwise fun a b => a.s < b.s) (hlt : ∀ x ∈ l, x.s < o.s) (hB : B ≤ w.heap.size) :
    Calls Tryz.prog 138 #[v, opV o] w fun e w' => ∃ v', e = .returned v' ∧ EO E5 49 w' B v' (l ++ [o]) ∧ Frm (fun k => v.ownBlock = some k) w w' ∧ ∀ r, v'.ownBlock = some r → v.ownBlock = some r ∨ w.heap.size ≤ r := by
  obtain ⟨A, hE, hX, hw⟩ := blk1 w (opA o) 49
  have hl6 : l.length ≤ 1000000 := by omega
  have hend : ∀ i, FndP l o.s i → i = l.length := fun i h => sfnd_end hlt h
  have hO := hO.keep hw
  have hBA := Nat.le_trans hB hw.size
  have r0 : ∀ V, Below A.heap.size A V → V.cell? ⟨w.heap.size, 0, none⟩ = some (.int .i64 o.s) := fun V h => (hX.keep h).at rfl
  have r1 : ∀ V, Below A.heap.size A V → V.cell? ⟨w.heap.size, 1, none⟩ = some (.int .i64 o.k) := fun V h => (hX.keep h).at rfl
  have r2 : ∀ V, Below A.heap.size A V → V.cell? ⟨w.heap.size, 2, none⟩ = some (.int .i64 o.t) := fun V h => (hX.keep h).at rfl
  have r3 : ∀ V, Below A.heap.size A V → V.cell? ⟨w.heap.size, 3, none⟩ = some (.int .i64 o.y) := fun V h => (hX.keep h).at rfl
  have r4 : ∀ V, Below A.heap.size A V → V.cell? ⟨w.heap.size, 4, none⟩ = some (.int .i64 o.v) := fun V h => (hX.keep h).at rfl
  clear hlt
  unfold opA at hE
  unfold opV opA
  go_enter Tryz.func138, Tryz.ntmps138
  go_upto_region 1 with fail
  clear hE
  refine region_L 7 (S := fun w' => Below A.heap.size A w') (by kernel_rfl) ((Below.refl _ _).drew) (fun hHeld => ?_)
  refine takeP (i := 0) (some 5) (by rfl) rfl rfl (by kernel_rfl) (by kernel_rfl) (by kernel_rfl) (fun _ _ _ h => h) (by rfl) (fun w => by go_simp; try rfl) hHeld ?_
  go_frame
  refine takeP (i := 1) (some 6) (by rfl) rfl rfl (by kernel_rfl) (by kernel_rfl) (by kernel_rfl) (fun _ _ _ h => h) (by rfl) (fun w => by go_simp; try rfl) hHeld ?_
  go_frame
  refine takeP (i := 2) (some 7) (by rfl) rfl rfl (by kernel_rfl) (by kernel_rfl) (by kernel_rfl) (fun _ _ _ h => h) (by rfl) (fun w => by go_simp; try rfl) hHeld ?_
  go_frame
  refine takeL (i := 3) [4, 7] (some 8) (by rfl) rfl rfl (by kernel_rfl) (by kernel_rfl) (by kernel_rfl) (by kernel_rfl) (fun _ _ _ h => h) (by rfl) (fun w hSw => by (try dsimp only at hSw); (have y0 := r0 _ hSw; go_simp; try rfl)) hHeld ?_
  go_frame
  refine takeL (i := 5) [6, 7] (some 10) (by rfl) rfl rfl (by kernel_rfl) (by kernel_rfl) (by kernel_rfl) (by kernel_rfl) (fun _ _ _ h => h) (by rfl) (fun w hSw => by (try dsimp only at hSw); (have y0 := r0 _ hSw; have y1 := r1 _ hSw; have y2 := r2 _ hSw; have y3 := r3 _ hSw; have y4 := r4 _ hSw; go_simp; try rfl)) hHeld ?_
  go_frame
  refine anyL_ready (rs := [4, 6]) (by kernel_rfl) (by simp) (AllL.cons rfl (fun K hK => ?_) (AllL.cons rfl (fun K hK => ?_) AllL.nil))
  · go_simp
    refine (sfind_any _ l o.s _ (hO.er.keep hHeld) hl6 hs).mono ?_
    rintro e Wn ⟨i, rfl, hF, bn⟩
    obtain rfl := hend i hF
    show K _ _
    refine hK.out _ _ (ab_trans hHeld bn) (fun hHeld => ?_)
    clear hK K bn hF
    try go_frame
    refine anyL_ready (rs := [6]) (by kernel_rfl) (by simp) (AllL.cons rfl (fun K hK => ?_) AllL.nil)
    rw [if_pos (by rfl)]
    refine bopW (some 11) rfl rfl o (by simp only [List.map_toArray, List.map_cons, List.map_nil]; rfl) fun W5 hP bn => ?_
    have hG : A.heap.size ≤ _ := hHeld.size
    refine hK.out _ _ (ab_trans hHeld bn) (fun hHeld => ?_)
    clear hK K bn
    try go_frame
    refine anyL_ready (rs := [7]) (by kernel_rfl) (by simp) (AllL.last rfl (by kernel_rfl) (fun K hK => ?_))
    go_simp
    refine (sinsert_end l o _ _ _ _ (hO.keep hHeld) hP hl (Nat.le_trans hBA hHeld.size)).mono ?_
    rintro e W6 ⟨v6, rfl, hO6, hf6, hn6⟩
    show K _ _
    refine hK.out _ _ ?_
    clear hK K
    try go_frame
    refine anyL_ready (rs := [8]) (by kernel_rfl) (by simp) (AllL.free rfl (by kernel_rfl) (fun K hK => ?_))
    go_simp
    refine hK.out _ _ ?_
    clear hK K
    refine anyL_done (by kernel_rfl) ?_
    go_wp2_with fail
    go_ret
    have hAf : Frm (fun k => v.ownBlock = some k) w _ := frm_below (ab_trans hw hHeld)
    exact ⟨_, rfl, hO6, hAf.trans hf6, fun r hr => (hn6 r hr).imp_right (fun h => Nat.le_trans hAf.size h)⟩
  · rw [if_pos (by rfl)]
    refine bopW (some 11) rfl rfl o (by simp only [List.map_toArray, List.map_cons, List.map_nil]; rfl) fun W5 hP bn => ?_
    have hG : A.heap.size ≤ _ := hHeld.size
    refine hK.out _ _ (ab_trans hHeld bn) (fun hHeld => ?_)
    clear hK K bn
    try go_frame
    refine anyL_ready (rs := [4]) (by kernel_rfl) (by simp) (AllL.cons rfl (fun K hK => ?_) AllL.nil)
    go_simp
    refine (sfind_any _ l o.s _ (hO.er.keep hHeld) hl6 hs).mono ?_
    rintro e Wn ⟨i, rfl, hF, bn⟩
    obtain rfl := hend i hF
    have hP := hP.keep bn
    show K _ _
    refine hK.out _ _ (ab_trans hHeld bn) (fun hHeld => ?_)
    clear hK K bn hF
    try go_frame
    refine anyL_ready (rs := [7]) (by kernel_rfl) (by simp) (AllL.last rfl (by kernel_rfl) (fun K hK => ?_))
    go_simp
    refine (sinsert_end l o _ _ _ _ (hO.keep hHeld) hP hl (Nat.le_trans hBA hHeld.size)).mono ?_
    rintro e W6 ⟨v6, rfl, hO6, hf6, hn6⟩
    show K _ _
    refine hK.out _ _ ?_
    clear hK K
    try go_frame
    refine anyL_ready (rs := [8]) (by kernel_rfl) (by simp) (AllL.free rfl (by kernel_rfl) (fun K hK => ?_))
    go_simp
    refine hK.out _ _ ?_
    clear hK K
    refine anyL_done (by kernel_rfl) ?_
    go_wp2_with fail
    go_ret
    have hAf : Frm (fun k => v.ownBlock = some k) w _ := frm_below (ab_trans hw hHeld)
    exact ⟨_, rfl, hO6, hAf.trans hf6, fun r hr => (hn6 r hr).imp_right (fun h => Nat.le_trans hAf.size h)⟩
/-- What a stream's calls turn: its own memory. -/
structure Ms (b : Nat) (vc : Value) (w w' : World) (vh vh' : Value) : Prop where
  frm : Frm (bkS b vh vc) w w'
  nh : ∀ r, vh'.ownBlock = some r → vh.ownBlock = some r ∨ w.heap.size ≤ r
theorem Ms.refl (b : Nat) (vc : Value) (w : World) (vh : Value) : Ms b vc w w vh vh := ⟨Frm.refl _ _, fun _ h => .inl h⟩
theorem ms_below {b : Nat} {vc : Value} {w w' : World} (vh : Value) (h : Below w.heap.size w w') : Ms b vc w w' vh vh := ⟨frm_below h, fun _ h => .inl h⟩
theorem Ms.trans {b : Nat} {vc : Value} {w w' w'' : World} {vh vh' vh'' : Value} (h : Ms b vc w w' vh vh') (k : Ms b vc w' w'' vh' vh'') : Ms b vc w w'' vh vh'' := by
  refine ⟨h.frm.young k.frm fun r hr hx => ?_, fun r hr => ?_⟩
  · rcases hx with hx | hx | hx
    · exact .inl hx
    · rcases h.nh r hx with e | e
      · exact .inr (.inl e)
      · omega
    · exact .inr (.inr hx)
  · rcases k.nh r hr with e | e
    · exact h.nh r e
    · exact .inr (Nat.le_trans h.frm.size e)
/-- A cell of a stream's block is stored. -/
theorem ms_set {b : Nat} {vc : Value} (w : World) (vh : Value) (i : Nat) (v : Value) : Ms b vc w (w.setCell ⟨b, i, none⟩ v) vh vh := ⟨frm_chg (chg_set w b i v) (.inl rfl), fun _ h => .inl h⟩
set_option maxHeartbeats 4000000 in
theorem sputSample_any {B b : Nat} {vr vh vc : Value} {S : Sm} (o : Op5) (w : World) (h : Sq w B b vr vh vc S) (ho : o.s = S.nx) (hk : o.k = 1) (hf : Fit5 o) (hn : S.nx < 9223372036854775807) (hl : S.ho.length < 100000) :
    Calls Tryz.prog 126 #[sptr b, opV o] w fun e w' => e = .returned (errV (putN S o)) ∧ ∃ vh', Sq w' B b vr vh' vc (putS S o) ∧ Ms b vc w w' vh vh' := by
  obtain ⟨A, hE, hX, hw⟩ := blk1 w (opA o) 49
  have hA := h.keep hw
  have d2 : A.cell? ⟨w.heap.size, 2, none⟩ = some (.int .i64 o.t) := hX.at rfl
  cases c : pas S o.t
  · have hN : putN S o = 0 := by unfold putN; rw [if_neg (by simp [ho]), if_pos hk, c]; rfl
    have hS := putS_sample hN hk
    have hOK := oks_put h.ok hf hn hl
    rw [hN, hS]
    rw [hS] at hOK
    have HOK : Hid (Oks { S with ho := S.ho ++ [o], nx := S.nx + 1 }) := hOK
    have HLT : Hid (∀ x ∈ S.ho, x.s < o.s) := fun x hx => by rw [ho]; exact h.ok.lt x hx
    clear hN hS hOK ho hk
    have r0 : ∀ V, Below A.heap.size A V → V.cell? ⟨w.heap.size, 0, none⟩ = some (.int .i64 o.s) := fun V h => (hX.keep h).at rfl
    have r1 : ∀ V, Below A.heap.size A V → V.cell? ⟨w.heap.size, 1, none⟩ = some (.int .i64 o.k) := fun V h => (hX.keep h).at rfl
    have r2 : ∀ V, Below A.heap.size A V → V.cell? ⟨w.heap.size, 2, none⟩ = some (.int .i64 o.t) := fun V h => (hX.keep h).at rfl
    have r3 : ∀ V, Below A.heap.size A V → V.cell? ⟨w.heap.size, 3, none⟩ = some (.int .i64 o.y) := fun V h => (hX.keep h).at rfl
    have r4 : ∀ V, Below A.heap.size A V → V.cell? ⟨w.heap.size, 4, none⟩ = some (.int .i64 o.v) := fun V h => (hX.keep h).at rfl
    have r9 : ∀ V, Below A.heap.size A V → V.cell? ⟨b, 9, none⟩ = some vh := fun V h => (hA.blk.keep h).at rfl
    unfold opA at hE
    unfold opV opA
    go_enter Tryz.func126, Tryz.ntmps126
    go_upto_region 3 with (go_at_call 69; refine (spast_any o.t _ hA).mono ?_; rintro e A ⟨rfl, rfl⟩; rw [c])
    clear hE d2 hX
    obtain ⟨q, cap, e⟩ := hA.he.form
    rw [e] at r9
    refine region_L 6 (S := fun w' => Below A.heap.size A w') (by kernel_rfl) ((Below.refl _ _).drew) (fun hHeld => ?_)
    refine takeP (i := 0) (some 10) (by rfl) rfl rfl (by kernel_rfl) (by kernel_rfl) (by kernel_rfl) (fun _ _ _ h => h) (by rfl) (fun w => by go_simp; try rfl) hHeld ?_
    go_frame
    refine takeP (i := 1) (some 11) (by rfl) rfl rfl (by kernel_rfl) (by kernel_rfl) (by kernel_rfl) (fun _ _ _ h => h) (by rfl) (fun w => by go_simp; try rfl) hHeld ?_
    go_frame
    refine takeP (i := 2) (some 12) (by rfl) rfl rfl (by kernel_rfl) (by kernel_rfl) (by kernel_rfl) (fun _ _ _ h => h) (by rfl) (fun w => by go_simp; try rfl) hHeld ?_
    go_frame
    refine takeP (i := 3) (some 13) (by rfl) rfl rfl (by kernel_rfl) (by kernel_rfl) (by kernel_rfl) (fun _ _ _ h => h) (by rfl) (fun w => by go_simp; try rfl) hHeld ?_
    go_frame
    refine takeL (i := 4) [6] (some 14) (by rfl) rfl rfl (by kernel_rfl) (by kernel_rfl) (by kernel_rfl) (by kernel_rfl) (fun _ _ _ h => h) (by rfl) (fun w hSw => by (try dsimp only at hSw); (have y0 := r9 _ hSw; go_simp; try rfl)) hHeld ?_
    go_frame
    refine takeL (i := 5) [6] (some 15) (by rfl) rfl rfl (by kernel_rfl) (by kernel_rfl) (by kernel_rfl) (by kernel_rfl) (fun _ _ _ h => h) (by rfl) (fun w hSw => by (try dsimp only at hSw); (have y0 := r0 _ hSw; have y1 := r1 _ hSw; have y2 := r2 _ hSw; have y3 := r3 _ hSw; have y4 := r4 _ hSw; go_simp; try rfl)) hHeld ?_
    go_frame
    refine anyL_ready (rs := [6]) (by kernel_rfl) (by simp) (AllL.last rfl (by kernel_rfl) (fun K hK => ?_))
    go_simp
    have hV := hA.keep hHeld
    have hVe := hV.he
    rw [e] at hVe
    refine (sinsert_any S.ho o _ B _ hVe (by omega) hV.ok.srt HLT.out (Nat.le_trans hV.ge (Nat.le_of_lt hV.blk.lt))).mono ?_
    rintro e6 W6 ⟨v6, rfl, hO6, hf6, hn6⟩
    obtain ⟨q6, c6, e66⟩ := hO6.form
    rw [← e] at hf6 hn6
    have hap : ¬ vh.ownBlock = some b := blk_own hV.he hV.blk (by decide)
    have hB6 : Blk W6 b (stC S vr vh vc) 152 := hV.blk.frm hf6 hap
    have hR6 : Io W6 B vr S.res := hV.re.frm hf6 (fun k hk hi => absurd ((own_kindR hV.he hk).uniq hi) (by decide))
    have hC6 : EO E2 89 W6 B vc S.ct := own_at hV.ce fun g hg => hf6.other g (World.ownsRow.lt hV.ce g hg).2 (fun hk => sep_ty hV.he hV.ce (by decide) g hk hg)
    have m6 : Ms b vc w W6 vh v6 := (ms_below vh (ab_trans hw hHeld)).trans ⟨hf6.mono fun k hk => .inr (.inl hk), hn6⟩
    show K _ _
    refine hK.out _ _ ?_
    clear hK K
    rw [e66]
    have x9 : W6.cell? ⟨b, 9, none⟩ = some vh := hB6.at rfl
    have f9 := hB6.frozen 9
    have HO6 : Hid (EO E5 49 W6 B v6 (S.ho ++ [o])) := hO6
    have HE66 : Hid (v6 = .slice q6 (S.ho ++ [o]).length c6) := e66
    have HR6 : Hid (Io W6 B vr S.res) := hR6
    have HC6 : Hid (EO E2 89 W6 B vc S.ct) := hC6
    clear hO6 e66 hR6 hC6 hf6 hn6 hV hVe hHeld r0 r1 r2 r3 r4 r9
    generalize (S.ho ++ [o]).length = N6 at *
    try go_frame
    refine anyL_ready (rs := [7]) (by kernel_rfl) (by simp) (AllL.free rfl (by kernel_rfl) (fun K hK => ?_))
    go_simp
    refine hK.out _ _ ?_
    clear hK K
    try go_frame
    refine anyL_ready (rs := [8]) (by kernel_rfl) (by simp) (AllL.free rfl (by kernel_rfl) (fun K hK => ?_))
    go_simp
    refine hK.out _ _ ?_
    clear hK K
    try go_frame
    refine anyL_ready (rs := [9]) (by kernel_rfl) (by simp) (AllL.free rfl (by kernel_rfl) (fun K hK => ?_))
    go_simp
    refine hK.out _ _ ?_
    clear hK K
    refine anyL_done (by kernel_rfl) ?_
    have hB7 : Blk (W6.setCell ⟨b, 9, none⟩ (.slice q6 N6 c6)) b (stC S vr (.slice q6 N6 c6) vc) 152 := hB6.set 9 (.slice q6 N6 c6)
    have k7 := chg_set W6 b 9 (.slice q6 N6 c6)
    have m7 := m6.trans (ms_set (b := b) (vc := vc) W6 v6 9 (.slice q6 N6 c6))
    have g3 : (W6.setCell ⟨b, 9, none⟩ (.slice q6 N6 c6)).cell? ⟨b, 3, none⟩ = some (.int .i64 S.nx) := hB7.at rfl
    have fr3 := hB7.frozen 3
    generalize W6.setCell ⟨b, 9, none⟩ (.slice q6 N6 c6) = W7 at *
    have hn0 := h.ok.n0
    go_wp2_with fail
    go_ret
    have k8 := chg_set W7 b 3 (.int .i64 (S.nx + 1))
    have hap6 : v6.ownBlock ≠ some b := blk_own HO6.out hB6 (by decide)
    have hO8 := own_chgT (own_chgT HO6.out k7 hap6) k8 hap6
    have hapc : vc.ownBlock ≠ some b := blk_own HC6.out hB6 (by decide)
    have hapr : vr.ownBlock ≠ some b := blk_own HR6.out hB6 (by decide)
    have hB8 := hB7.set 3 (.int .i64 (S.nx + 1))
    rw [← HE66.out] at hB8
    exact ⟨rfl, v6, ⟨hB8, h.ge, own_chgT (own_chgT HR6.out k7 hapr) k8 hapr, hO8, own_chgT (own_chgT HC6.out k7 hapc) k8 hapc, HOK.out⟩, m7.trans (ms_set _ _ _ _)⟩
  · have hN : putN S o = 8 := by unfold putN; rw [if_neg (by simp [ho]), if_pos hk, c]; rfl
    have hS := putS_no (S := S) (o := o) (by rw [hN]; decide)
    rw [hN, hS]
    clear hN hS ho hk
    unfold opA at hE
    unfold opV opA
    go_enter Tryz.func126, Tryz.ntmps126
    go_wp2_with (go_at_call 69; refine (spast_any o.t _ hA).mono ?_; rintro e A ⟨rfl, rfl⟩; rw [c])
    go_ret
    exact ⟨rfl, _, hA, ms_below _ hw⟩
/-- An operation into the middle of a block. -/
theorem st_opAt {ops : Array Oper} {rest : List Oper} {o : Oper} {a : Act} {w : World} {Q : Exit → Act → World → Prop} (hw : Region.wanted o (yielded ops a.tmps) = true) {x y : Operand} (ho : o.op = .store 49 x y) {b off : Nat} {arr : Array Value} {t : TypeId} {k1 : Op5} (hB : Blk w b arr t) (hsz : off + 5 ≤ arr.size) (hx : a.eval x = .pointer (some ⟨b, off, none⟩)) (hy : a.eval y = opV k1)
    (h : ∀ W', Blk W' b (setA arr off (opA k1).toList) t → Chg b w W' → wpList Tryz.prog ops Q rest (a.put o.dst undef) W') : wpList Tryz.prog ops Q (o :: rest) a w := by
  obtain ⟨h1, h2⟩ := blk_setCells (opA k1).toList off w arr hB
  unfold wpList
  rw [if_pos hw]
  left
  refine wp_store_mid 49 x y ho b off (opA k1) hx hy (fun j hj => ⟨?_, hB.frozen _⟩) (info_op5 k1) (by simp [opA, Value.oneCell']) (h _ h1 h2)
  rw [hB.cell]
  have : j < 5 := hj
  rw [Array.getElem?_eq_getElem (by omega)]
  rfl
theorem sputMark_any {B b : Nat} {vr vh vc : Value} {S : Sm} (o : Op5) (w : World) (h : Sq w B b vr vh vc S) (ho : o.s = S.nx) (hk : o.k = 2) (hf : Fit5 o) (hn : S.nx < 9223372036854775807) (hl : S.ho.length < 100000) :
    Calls Tryz.prog 127 #[sptr b, opV o] w fun e w' => e = .returned (errV (putN S o)) ∧ ∃ vh', Sq w' B b vr vh' vc (putS S o) ∧ Ms b vc w w' vh vh' := by
  obtain ⟨A, hE, hX, hw⟩ := blk1 w (opA o) 49
  have hA := h.keep hw
  have d0 : A.cell? ⟨w.heap.size, 0, none⟩ = some (.int .i64 o.s) := hX.at rfl
  have d1 : A.cell? ⟨w.heap.size, 1, none⟩ = some (.int .i64 o.k) := hX.at rfl
  have d2 : A.cell? ⟨w.heap.size, 2, none⟩ = some (.int .i64 o.t) := hX.at rfl
  have d3 : A.cell? ⟨w.heap.size, 3, none⟩ = some (.int .i64 o.y) := hX.at rfl
  have d4 : A.cell? ⟨w.heap.size, 4, none⟩ = some (.int .i64 o.v) := hX.at rfl
  cases c : pas S o.t
  · cases d : decide (o.y = 0 ∧ o.v = 0)
    · have hN : putN S o = 2 := by unfold putN; rw [if_neg (by simp [ho]), if_neg (by rw [hk]; decide), if_pos hk, c, if_neg (by decide), if_neg (of_decide_eq_false d)]
      have hS := putS_no (S := S) (o := o) (by rw [hN]; decide)
      rw [hN, hS]
      clear hN hS ho hk
      have hA' := hA
      unfold opA at hE
      unfold opV opA
      go_enter Tryz.func127, Tryz.ntmps127
      go_wp2_with (first
        | (go_at_call 69; refine (spast_any o.t _ hA).mono ?_; rintro e A ⟨rfl, rfl⟩; rw [c])
        | (go_at_call 149; refine (sbare_any o _).mono ?_; rintro e W2 ⟨rfl, b2⟩; rw [d]))
      go_ret
      exact ⟨rfl, _, hA'.keep b2, ms_below _ (ab_trans hw b2)⟩
    · have hN : putN S o = 0 := by unfold putN; rw [if_neg (by simp [ho]), if_neg (by rw [hk]; decide), if_pos hk, c, if_neg (by decide), if_pos (of_decide_eq_true d)]
      have hS := putS_mark hN (by rw [hk]; decide)
      have hOK := oks_put h.ok hf hn hl
      rw [hN, hS]
      rw [hS] at hOK
      have HOK : Hid (Oks { S with mr := o, nx := S.nx + 1 }) := hOK
      clear hN hS hOK ho hk
      unfold opA at hE
      unfold opV opA
      go_enter Tryz.func127, Tryz.ntmps127
      go_upto_region 5 with (first
        | (go_at_call 69; refine (spast_any o.t _ hA).mono ?_; rintro e A ⟨rfl, rfl⟩; rw [c])
        | (go_at_call 149; refine (sbare_any o _).mono ?_; rintro e W2 ⟨rfl, b2⟩; rw [d]))
      have hV := hA.keep b2
      have hX2 := hX.keep b2
      have g0 : W2.cell? ⟨w.heap.size, 0, none⟩ = some (.int .i64 o.s) := hX2.at rfl
      have g1 : W2.cell? ⟨w.heap.size, 1, none⟩ = some (.int .i64 o.k) := hX2.at rfl
      have g2 : W2.cell? ⟨w.heap.size, 2, none⟩ = some (.int .i64 o.t) := hX2.at rfl
      have g3 : W2.cell? ⟨w.heap.size, 3, none⟩ = some (.int .i64 o.y) := hX2.at rfl
      have g4 : W2.cell? ⟨w.heap.size, 4, none⟩ = some (.int .i64 o.v) := hX2.at rfl
      have hm2 : Ms b vc w W2 vh vh := ms_below vh (ab_trans hw b2)
      have hapc : vc.ownBlock ≠ some b := blk_own hV.ce hV.blk (by decide)
      have hapr : vr.ownBlock ≠ some b := blk_own hV.re hV.blk (by decide)
      have haph : vh.ownBlock ≠ some b := blk_own hV.he hV.blk (by decide)
      clear hE d0 d1 d2 d3 d4 hX hX2 hA b2 hw
      go_upto_region 6 with (refine st_opAt rfl rfl (k1 := o) hV.blk (by show 4 + 5 ≤ 11; omega) rfl rfl ?_; intro W3 hB3 C3)
      have hB3' : Blk W3 b (stC { S with mr := o } vr vh vc) 152 := hB3
      have x3 : W3.cell? ⟨b, 3, none⟩ = some (.int .i64 S.nx) := hB3'.at rfl
      have f3 := hB3'.frozen 3
      have hn0 := h.ok.n0
      clear g0 g1 g2 g3 g4 hB3
      go_wp2_with fail
      go_ret
      have k8 := chg_set W3 b 3 (.int .i64 (S.nx + 1))
      have hm3 := hm2.trans (⟨frm_chg (C3.trans k8) (.inl rfl), fun _ h => .inl h⟩ : Ms b vc W2 (W3.setCell ⟨b, 3, none⟩ (.int .i64 (S.nx + 1))) vh vh)
      exact ⟨rfl, vh, ⟨hB3'.set 3 (.int .i64 (S.nx + 1)), h.ge, own_chgT hV.re (C3.trans k8) hapr, own_chgT hV.he (C3.trans k8) haph, own_chgT hV.ce (C3.trans k8) hapc, HOK.out⟩, hm3⟩
  · have hN : putN S o = 9 := by unfold putN; rw [if_neg (by simp [ho]), if_neg (by rw [hk]; decide), if_pos hk, c]; rfl
    have hS := putS_no (S := S) (o := o) (by rw [hN]; decide)
    rw [hN, hS]
    clear hN hS ho hk
    unfold opA at hE
    unfold opV opA
    go_enter Tryz.func127, Tryz.ntmps127
    go_wp2_with (go_at_call 69; refine (spast_any o.t _ hA).mono ?_; rintro e A ⟨rfl, rfl⟩; rw [c])
    go_ret
    exact ⟨rfl, _, hA, ms_below _ hw⟩
end Go.Proofs.YteffpgodookebaaGreat
