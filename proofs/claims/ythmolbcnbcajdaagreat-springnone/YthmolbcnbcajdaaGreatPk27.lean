/-
  stream.insert where an operation comes behind the others; Put.
  stream's Put.
  stream's Cut: its closure, slices.IndexFunc and slices.DeleteFunc at it.
  slices.DeleteFunc at the closure of stream's Cut.
  Slices that are read beside blocks that turn; places of a cut, on the way. Nothing here names the program.
  stream's Cut.
  stream's Cut, where there are as many places as lanes.
-/
import Derived.Test.YthmolbcnbcajdaaGreatPk26
import Derived.Test.YthmolbcnbcajdaaGreatPk15
import Derived.Test.YthmolbcnbcajdaaGreatPk06
import Derived.Test.YthmolbcnbcajdaaGreatPk22
import Derived.Test.YthmolbcnbcajdaaGreatPk25
namespace Go.Proofs.YthmolbcnbcajdaaGreat
open Go.RowKit
set_option linter.unusedVariables false
set_option maxRecDepth 100000

section
variable {P : Program} {α : Type} {E : En α} {ops : Array Oper} {rest : List Oper} {o : Oper} {a : Act} {w : World} {Q : Exit → Act → World → Prop}
/-- append onto an own slice, whose block is told. -/
theorem appe_run (base : Nat) {t e ty : TypeId} {bytes : Nat} {z : Value} (ht : P.underlying t = some (.slice e)) (hinf : (P.info? e).map (fun i => (i.zero, i.size, i.bytes)) = some (some z, E.k, bytes)) (hz : z.cells.size = E.k)
    {v vx : Value} {l m : List α} (hown : EO E e w base v l) (hsl : ER E w vx m) (h63 : l.length + m.length ≤ 1000000000) (hbytes : (l.length + m.length) * bytes ≤ 140737488355328) (hA : base ≤ w.heap.size) :
    ∃ v' w', (Builtin.append_ #[t, t] ty #[v, vx]).run P w = .ok v' w' ∧ EO E e w' base v' (l ++ m) ∧ w.grownBy w' v.ownBlock ∧ (v'.ownBlock = v.ownBlock ∨ v'.ownBlock = some w.heap.size) := by
  obtain ⟨i, hi, hz0, hz1, hz2⟩ := info_parts hinf
  obtain ⟨q, cap, rfl, hq, hsrc⟩ := hsl.src
  cases q with
  | none =>
    have h0 := hq rfl
    have hm0 : m = [] := List.eq_nil_of_length_eq_zero h0
    subst hm0
    exact ⟨v, w, append_none (P := P) w base t ty e i E.k cap ht hi v l.length (E.fl l) hown, by simpa using hown, ⟨rfl, rfl, rfl, Nat.le_refl _, fun _ _ _ => rfl⟩, .inl rfl⟩
  | some ad =>
    obtain ⟨v', w', hr, h2, h3, h4, h5⟩ := run_append_own_at (P := P) w base t ty e i _ E.k bytes ht hi hz0 hz1 hz2 hz E.pos v l.length (E.fl l) hown ad m.length cap (E.fl m) (E.fl_len m) (hsrc ad rfl) (E.fl_cell m) (by unfold maxLen; omega) hbytes hA
    rw [← E.fl_append] at h2
    exact ⟨v', w', hr, eo_of h2, h3, h5⟩
theorem app_eB (base : Nat) (hw : Region.wanted o (yielded ops a.tmps) = true) {s x : Operand} {t e : TypeId} {bytes : Nat} {z : Value} (ho : o.op = .call { callee := .builtin .append, args := #[s, x], argTypes := #[t, t] })
    (ht : P.underlying t = some (.slice e)) (hinf : (P.info? e).map (fun i => (i.zero, i.size, i.bytes)) = some (some z, E.k, bytes)) (hz : z.cells.size = E.k)
    {v vx : Value} {l m : List α} (hs : a.eval s = v) (hown : EO E e w base v l) (hx : a.eval x = vx) (hsl : ER E w vx m) (h63 : l.length + m.length ≤ 1000000000) (hbytes : (l.length + m.length) * bytes ≤ 140737488355328) (hA : base ≤ w.heap.size)
    (h : ∀ v' w', EO E e w' base v' (l ++ m) → w.grownBy w' v.ownBlock → (v'.ownBlock = v.ownBlock ∨ v'.ownBlock = some w.heap.size) → wpList P ops Q rest (a.put o.dst v') w') : wpList P ops Q (o :: rest) a w := by
  obtain ⟨v', w', hr, h1, h2, h3⟩ := appe_run (ty := o.type) base ht hinf hz hown hsl h63 hbytes hA
  unfold wpList
  rw [if_pos hw]
  left
  unfold Oper.wp execOp
  simp only [ho, resolve, invoke, builtin, Sem.run_bind, Sem.run_pure, Result.andThen_ok, List.map_toArray, List.map_cons, List.map_nil, hs, hx, hr]
  exact h v' w' h1 h2 h3
/-- 'x[l:]' of any slice: its run. -/
theorem slq_l {ρ : Operand → Value} {t : TypeId} {x y : Operand} (ho : o.op = .slice t x (some y) none none) {q : Option Addr} {n cap l sz : Nat} {L : Int}
    (hx : ρ x = .slice q n cap) (hy : ρ y = .int .i64 L) (hL : L = (l : Int))
    (ht : P.underlying t = some (.slice (P.elem t))) (hs : (sizeOf (P.elem t)).run P w = .ok sz w) (h1 : l ≤ n) (h2 : n ≤ cap) : (execOp ρ o).run P w = .ok (.value (sliced q l n cap sz)) w := by
  subst hL
  unfold execOp
  simp only [ho, hx, hy, Option.map_some, Option.map_none, Sem.run_bind, run_sliceAt_slice w t _ _ _ _ ht, run_slice_l w t q n cap ht _ (l : Int) (by omega) (by omega), hs, Result.andThen_ok, Sem.run_pure, Int.toNat_natCast]
end
theorem frm_grownV {A B : World} {v : Value} (h : A.grownBy B v.ownBlock) : Frm (fun k => v.ownBlock = some k) A B :=
  ⟨h.os, h.tape, h.output, h.size, fun i hi hx => h.block i hi (fun e => hx (by rw [e]))⟩
theorem eltO : Tryz.prog.underlying 23 = some (.slice (Tryz.prog.elem 23)) := by kernel_rfl
theorem sizeO (w : World) : (sizeOf (Tryz.prog.elem 23)).run Tryz.prog w = .ok 5 w := by kernel_rfl
theorem bop1 (o : Op5) (w : World) : (Instr.buildSlice 23 1 #[(0, opV o)]).run Tryz.prog w = .ok (.slice (some ⟨w.heap.size, 0, none⟩) 1 1) (w.alloc (.cells (opA o) 30)) := by kernel_rfl
theorem bopW {o : Oper} {a : Act} {w : World} {K : Act → World → Prop} {Q : Exit → Act → World → Prop} (d : Option Tmp) (hd : o.dst = d) {parts : Array (Nat × Operand)} (ho : o.op = .buildSlice 23 1 parts) (x : Op5)
    (hl : parts.map (fun (i, x) => (i, a.eval x)) = #[(0, opV x)])
    (h : ∀ W', Blk W' w.heap.size (opA x) 30 → Below w.heap.size w W' → K (a.put d (.slice (some ⟨w.heap.size, 0, none⟩) 1 1)) W') : o.wp Tryz.prog a w K Q := by
  subst hd
  unfold Oper.wp execOp
  simp only [ho, Sem.run_bind, hl, bop1, Result.andThen_ok]
  exact h _ (Blk.new _ _ _) ((Below.refl _ _).alloc (Nat.le_refl _) _)
/-- A slice of one operation. -/
theorem er_one {W : World} {g : Nat} {o : Op5} (h : Blk W g (opA o) 30) : ER E5 W (.slice (some ⟨g, 0, none⟩) 1 1) [o] :=
  ⟨_, 1, g, 0, rfl, Nat.le_refl _, by omega, fun _ => ⟨rfl, h.lt⟩, fun j u hu => by
    rw [Nat.zero_add, h.cell]
    rw [E5.fl_one1] at hu
    have : (opA o).toList[j]? = some u := hu
    simpa using this⟩
set_option maxHeartbeats 2000000 in
theorem sinsert_end (l : List Op5) (o : Op5) (v : Value) (g B : Nat) (w : World) (hO : EO E5 30 w B v l) (hP : Blk w g (opA o) 30) (hl : l.length ≤ 100000) (hB : B ≤ w.heap.size) :
    Calls Tryz.prog 96 #[v, .int .i64 (l.length : Int), .slice (some ⟨g, 0, none⟩) 1 1] w fun e w' => ∃ v', e = .returned v' ∧ EO E5 30 w' B v' (l ++ [o]) ∧ Frm (fun k => v.ownBlock = some k) w w' ∧ ∀ r, v'.ownBlock = some r → v.ownBlock = some r ∨ w.heap.size ≤ r := by
  obtain ⟨q, cap, g0, off, rfl, hc, hm, hp, -⟩ := hO.er
  have HO : Hid (EO E5 30 w B (.slice q l.length cap) l) := hO
  have HP : Hid (ER E5 w (.slice (some ⟨g, 0, none⟩) 1 1) [o]) := er_one hP
  clear hO hP hp
  generalize hn : l.length = n at *
  obtain ⟨sv, hsv⟩ : ∃ sv, sliced q n n cap 5 = sv := ⟨_, rfl⟩
  have HSV : Hid (sliced q n n cap 5 = sv) := hsv
  clear hsv
  go_enter Tryz.func96, Tryz.ntmps96
  go_wp2_with (first
    | (refine valS rfl sv ((slq_l rfl rfl rfl rfl eltO (sizeO _) (Nat.le_refl n) hc).trans (by rw [HSV.out])) ?_)
    | (at_builtin; refine app_eB B rfl rfl Tryz.underlying23 infoOp5 rfl (v := .slice q n cap) rfl HO.out rfl HP.out (by simp; omega) (by simp; omega) hB ?_; intro v' W' hown hg hat))
  go_ret
  refine ⟨v', rfl, hown, frm_grownV hg, fun r hr => ?_⟩
  rcases hat with e | e
  · exact .inl (by rw [← e]; exact hr)
  · rw [e] at hr; cases hr; exact .inr (Nat.le_refl _)
/-- insert of an operation that comes behind the others. -/
theorem sfnd_end {l : List Op5} {sq : Int} (h : ∀ o ∈ l, o.s < sq) {i : Nat} (hF : FndP l sq i) : i = l.length := by
  rcases Nat.lt_or_ge i l.length with c | c
  · have := hF.hi i _ (List.getElem?_eq_getElem c) (Nat.le_refl _)
    have := h _ (List.getElem_mem c)
    omega
  · have := hF.le; omega
set_option maxHeartbeats 4000000 in
theorem sinsert_any (l : List Op5) (o : Op5) (v : Value) (B : Nat) (w : World) (hO : EO E5 30 w B v l) (hl : l.length ≤ 100000) (hs : l.Pairwise fun a b => a.s < b.s) (hlt : ∀ x ∈ l, x.s < o.s) (hB : B ≤ w.heap.size) :
    Calls Tryz.prog 74 #[v, opV o] w fun e w' => ∃ v', e = .returned v' ∧ EO E5 30 w' B v' (l ++ [o]) ∧ Frm (fun k => v.ownBlock = some k) w w' ∧ ∀ r, v'.ownBlock = some r → v.ownBlock = some r ∨ w.heap.size ≤ r := by
  obtain ⟨A, hE, hX, hw⟩ := blk1 w (opA o) 30
  have hl6 : l.length ≤ 1000000 := by omega
  have hend : ∀ i, FndP l o.s i → i = l.length := fun i h => sfnd_end hlt h
  have hO := hO.keep hw
  have hBA := Nat.le_trans hB hw.size
  have r0 : ∀ V, Below A.heap.size A V → V.cell? ⟨w.heap.size, 0, none⟩ = some (.int .i64 o.s) := fun V h => (hX.keep h).at rfl
  have r1 : ∀ V, Below A.heap.size A V → V.cell? ⟨w.heap.size, 1, none⟩ = some (.int .i64 o.k) := fun V h => (hX.keep h).at rfl
  have r2 : ∀ V, Below A.heap.size A V → V.cell? ⟨w.heap.size, 2, none⟩ = some (.int .i64 o.t) := fun V h => (hX.keep h).at rfl
  have r3 : ∀ V, Below A.heap.size A V → V.cell? ⟨w.heap.size, 3, none⟩ = some (.int .i64 o.y) := fun V h => (hX.keep h).at rfl
  have r4 : ∀ V, Below A.heap.size A V → V.cell? ⟨w.heap.size, 4, none⟩ = some (.int .i64 o.v) := fun V h => (hX.keep h).at rfl
  clear hlt
  unfold opA at hE
  unfold opV opA
  go_enter Tryz.func74, Tryz.ntmps74
  go_upto_region 1 with fail
  clear hE
  refine region_L 7 (S := fun w' => Below A.heap.size A w') (by kernel_rfl) ((Below.refl _ _).drew) (fun hHeld => ?_)
  refine takeP (i := 0) (some 5) (by rfl) rfl rfl (by kernel_rfl) (by kernel_rfl) (by kernel_rfl) (fun _ _ _ h => h) (by rfl) (fun w => by go_simp; try rfl) hHeld ?_
  go_frame
  refine takeP (i := 1) (some 6) (by rfl) rfl rfl (by kernel_rfl) (by kernel_rfl) (by kernel_rfl) (fun _ _ _ h => h) (by rfl) (fun w => by go_simp; try rfl) hHeld ?_
  go_frame
  refine takeP (i := 2) (some 7) (by rfl) rfl rfl (by kernel_rfl) (by kernel_rfl) (by kernel_rfl) (fun _ _ _ h => h) (by rfl) (fun w => by go_simp; try rfl) hHeld ?_
  go_frame
  refine takeL (i := 3) [4, 7] (some 8) (by rfl) rfl rfl (by kernel_rfl) (by kernel_rfl) (by kernel_rfl) (by kernel_rfl) (fun _ _ _ h => h) (by rfl) (fun w hSw => by (try dsimp only at hSw); (have y0 := r0 _ hSw; go_simp; try rfl)) hHeld ?_
  go_frame
  refine takeL (i := 5) [6, 7] (some 10) (by rfl) rfl rfl (by kernel_rfl) (by kernel_rfl) (by kernel_rfl) (by kernel_rfl) (fun _ _ _ h => h) (by rfl) (fun w hSw => by (try dsimp only at hSw); (have y0 := r0 _ hSw; have y1 := r1 _ hSw; have y2 := r2 _ hSw; have y3 := r3 _ hSw; have y4 := r4 _ hSw; go_simp; try rfl)) hHeld ?_
  go_frame
  refine anyL_ready (rs := [4, 6]) (by kernel_rfl) (by simp) (AllL.cons rfl (fun K hK => ?_) (AllL.cons rfl (fun K hK => ?_) AllL.nil))
  · go_simp
    refine (sfind_any _ l o.s _ (hO.er.keep hHeld) hl6 hs).mono ?_
    rintro e Wn ⟨i, rfl, hF, bn⟩
    obtain rfl := hend i hF
    show K _ _
    refine hK.out _ _ (ab_trans hHeld bn) (fun hHeld => ?_)
    clear hK K bn hF
    try go_frame
    refine anyL_ready (rs := [6]) (by kernel_rfl) (by simp) (AllL.cons rfl (fun K hK => ?_) AllL.nil)
    rw [if_pos (by rfl)]
    refine bopW (some 11) rfl rfl o (by simp only [List.map_toArray, List.map_cons, List.map_nil]; rfl) fun W5 hP bn => ?_
    have hG : A.heap.size ≤ _ := hHeld.size
    refine hK.out _ _ (ab_trans hHeld bn) (fun hHeld => ?_)
    clear hK K bn
    try go_frame
    refine anyL_ready (rs := [7]) (by kernel_rfl) (by simp) (AllL.last rfl (by kernel_rfl) (fun K hK => ?_))
    go_simp
    refine (sinsert_end l o _ _ _ _ (hO.keep hHeld) hP hl (Nat.le_trans hBA hHeld.size)).mono ?_
    rintro e W6 ⟨v6, rfl, hO6, hf6, hn6⟩
    show K _ _
    refine hK.out _ _ ?_
    clear hK K
    try go_frame
    refine anyL_ready (rs := [8]) (by kernel_rfl) (by simp) (AllL.free rfl (by kernel_rfl) (fun K hK => ?_))
    go_simp
    refine hK.out _ _ ?_
    clear hK K
    refine anyL_done (by kernel_rfl) ?_
    go_wp2_with fail
    go_ret
    have hAf : Frm (fun k => v.ownBlock = some k) w _ := frm_below (ab_trans hw hHeld)
    exact ⟨_, rfl, hO6, hAf.trans hf6, fun r hr => (hn6 r hr).imp_right (fun h => Nat.le_trans hAf.size h)⟩
  · rw [if_pos (by rfl)]
    refine bopW (some 11) rfl rfl o (by simp only [List.map_toArray, List.map_cons, List.map_nil]; rfl) fun W5 hP bn => ?_
    have hG : A.heap.size ≤ _ := hHeld.size
    refine hK.out _ _ (ab_trans hHeld bn) (fun hHeld => ?_)
    clear hK K bn
    try go_frame
    refine anyL_ready (rs := [4]) (by kernel_rfl) (by simp) (AllL.cons rfl (fun K hK => ?_) AllL.nil)
    go_simp
    refine (sfind_any _ l o.s _ (hO.er.keep hHeld) hl6 hs).mono ?_
    rintro e Wn ⟨i, rfl, hF, bn⟩
    obtain rfl := hend i hF
    have hP := hP.keep bn
    show K _ _
    refine hK.out _ _ (ab_trans hHeld bn) (fun hHeld => ?_)
    clear hK K bn hF
    try go_frame
    refine anyL_ready (rs := [7]) (by kernel_rfl) (by simp) (AllL.last rfl (by kernel_rfl) (fun K hK => ?_))
    go_simp
    refine (sinsert_end l o _ _ _ _ (hO.keep hHeld) hP hl (Nat.le_trans hBA hHeld.size)).mono ?_
    rintro e W6 ⟨v6, rfl, hO6, hf6, hn6⟩
    show K _ _
    refine hK.out _ _ ?_
    clear hK K
    try go_frame
    refine anyL_ready (rs := [8]) (by kernel_rfl) (by simp) (AllL.free rfl (by kernel_rfl) (fun K hK => ?_))
    go_simp
    refine hK.out _ _ ?_
    clear hK K
    refine anyL_done (by kernel_rfl) ?_
    go_wp2_with fail
    go_ret
    have hAf : Frm (fun k => v.ownBlock = some k) w _ := frm_below (ab_trans hw hHeld)
    exact ⟨_, rfl, hO6, hAf.trans hf6, fun r hr => (hn6 r hr).imp_right (fun h => Nat.le_trans hAf.size h)⟩
/-- What a stream's calls turn: its own memory. -/
structure Ms (b : Nat) (vc : Value) (w w' : World) (vh vh' : Value) : Prop where
  frm : Frm (bkS b vh vc) w w'
  nh : ∀ r, vh'.ownBlock = some r → vh.ownBlock = some r ∨ w.heap.size ≤ r
theorem Ms.refl (b : Nat) (vc : Value) (w : World) (vh : Value) : Ms b vc w w vh vh := ⟨Frm.refl _ _, fun _ h => .inl h⟩
theorem ms_below {b : Nat} {vc : Value} {w w' : World} (vh : Value) (h : Below w.heap.size w w') : Ms b vc w w' vh vh := ⟨frm_below h, fun _ h => .inl h⟩
theorem Ms.trans {b : Nat} {vc : Value} {w w' w'' : World} {vh vh' vh'' : Value} (h : Ms b vc w w' vh vh') (k : Ms b vc w' w'' vh' vh'') : Ms b vc w w'' vh vh'' := by
  refine ⟨h.frm.young k.frm fun r hr hx => ?_, fun r hr => ?_⟩
  · rcases hx with hx | hx | hx
    · exact .inl hx
    · rcases h.nh r hx with e | e
      · exact .inr (.inl e)
      · omega
    · exact .inr (.inr hx)
  · rcases k.nh r hr with e | e
    · exact h.nh r e
    · exact .inr (Nat.le_trans h.frm.size e)
/-- A cell of a stream's block is stored. -/
theorem ms_set {b : Nat} {vc : Value} (w : World) (vh : Value) (i : Nat) (v : Value) : Ms b vc w (w.setCell ⟨b, i, none⟩ v) vh vh := ⟨frm_chg (chg_set w b i v) (.inl rfl), fun _ h => .inl h⟩
set_option maxHeartbeats 4000000 in
theorem sputSample_any {B b : Nat} {vr vh vc : Value} {S : Sm} (o : Op5) (w : World) (h : Sq w B b vr vh vc S) (ho : o.s = S.nx) (hk : o.k = 1) (hf : Fit5 o) (hn : S.nx < 9223372036854775807) (hl : S.ho.length < 100000) :
    Calls Tryz.prog 57 #[sptr b, opV o] w fun e w' => e = .returned (errV (putN S o)) ∧ ∃ vh', Sq w' B b vr vh' vc (putS S o) ∧ Ms b vc w w' vh vh' := by
  obtain ⟨A, hE, hX, hw⟩ := blk1 w (opA o) 30
  have hA := h.keep hw
  have d2 : A.cell? ⟨w.heap.size, 2, none⟩ = some (.int .i64 o.t) := hX.at rfl
  cases c : pas S o.t
  · have hN : putN S o = 0 := by unfold putN; rw [if_neg (by simp [ho]), if_pos hk, c]; rfl
    have hS := putS_sample hN hk
    have hOK := oks_put h.ok hf hn hl
    rw [hN, hS]
    rw [hS] at hOK
    have HOK : Hid (Oks { S with ho := S.ho ++ [o], nx := S.nx + 1 }) := hOK
    have HLT : Hid (∀ x ∈ S.ho, x.s < o.s) := fun x hx => by rw [ho]; exact h.ok.lt x hx
    clear hN hS hOK ho hk
    have r0 : ∀ V, Below A.heap.size A V → V.cell? ⟨w.heap.size, 0, none⟩ = some (.int .i64 o.s) := fun V h => (hX.keep h).at rfl
    have r1 : ∀ V, Below A.heap.size A V → V.cell? ⟨w.heap.size, 1, none⟩ = some (.int .i64 o.k) := fun V h => (hX.keep h).at rfl
    have r2 : ∀ V, Below A.heap.size A V → V.cell? ⟨w.heap.size, 2, none⟩ = some (.int .i64 o.t) := fun V h => (hX.keep h).at rfl
    have r3 : ∀ V, Below A.heap.size A V → V.cell? ⟨w.heap.size, 3, none⟩ = some (.int .i64 o.y) := fun V h => (hX.keep h).at rfl
    have r4 : ∀ V, Below A.heap.size A V → V.cell? ⟨w.heap.size, 4, none⟩ = some (.int .i64 o.v) := fun V h => (hX.keep h).at rfl
    have r9 : ∀ V, Below A.heap.size A V → V.cell? ⟨b, 9, none⟩ = some vh := fun V h => (hA.blk.keep h).at rfl
    unfold opA at hE
    unfold opV opA
    go_enter Tryz.func57, Tryz.ntmps57
    go_upto_region 3 with (go_at_call 29; refine (spast_any o.t _ hA).mono ?_; rintro e A ⟨rfl, rfl⟩; rw [c])
    clear hE d2 hX
    obtain ⟨q, cap, e⟩ := hA.he.form
    rw [e] at r9
    refine region_L 6 (S := fun w' => Below A.heap.size A w') (by kernel_rfl) ((Below.refl _ _).drew) (fun hHeld => ?_)
    refine takeP (i := 0) (some 10) (by rfl) rfl rfl (by kernel_rfl) (by kernel_rfl) (by kernel_rfl) (fun _ _ _ h => h) (by rfl) (fun w => by go_simp; try rfl) hHeld ?_
    go_frame
    refine takeP (i := 1) (some 11) (by rfl) rfl rfl (by kernel_rfl) (by kernel_rfl) (by kernel_rfl) (fun _ _ _ h => h) (by rfl) (fun w => by go_simp; try rfl) hHeld ?_
    go_frame
    refine takeP (i := 2) (some 12) (by rfl) rfl rfl (by kernel_rfl) (by kernel_rfl) (by kernel_rfl) (fun _ _ _ h => h) (by rfl) (fun w => by go_simp; try rfl) hHeld ?_
    go_frame
    refine takeP (i := 3) (some 13) (by rfl) rfl rfl (by kernel_rfl) (by kernel_rfl) (by kernel_rfl) (fun _ _ _ h => h) (by rfl) (fun w => by go_simp; try rfl) hHeld ?_
    go_frame
    refine takeL (i := 4) [6] (some 14) (by rfl) rfl rfl (by kernel_rfl) (by kernel_rfl) (by kernel_rfl) (by kernel_rfl) (fun _ _ _ h => h) (by rfl) (fun w hSw => by (try dsimp only at hSw); (have y0 := r9 _ hSw; go_simp; try rfl)) hHeld ?_
    go_frame
    refine takeL (i := 5) [6] (some 15) (by rfl) rfl rfl (by kernel_rfl) (by kernel_rfl) (by kernel_rfl) (by kernel_rfl) (fun _ _ _ h => h) (by rfl) (fun w hSw => by (try dsimp only at hSw); (have y0 := r0 _ hSw; have y1 := r1 _ hSw; have y2 := r2 _ hSw; have y3 := r3 _ hSw; have y4 := r4 _ hSw; go_simp; try rfl)) hHeld ?_
    go_frame
    refine anyL_ready (rs := [6]) (by kernel_rfl) (by simp) (AllL.last rfl (by kernel_rfl) (fun K hK => ?_))
    go_simp
    have hV := hA.keep hHeld
    have hVe := hV.he
    rw [e] at hVe
    refine (sinsert_any S.ho o _ B _ hVe (by omega) hV.ok.srt HLT.out (Nat.le_trans hV.ge (Nat.le_of_lt hV.blk.lt))).mono ?_
    rintro e6 W6 ⟨v6, rfl, hO6, hf6, hn6⟩
    obtain ⟨q6, c6, e66⟩ := hO6.form
    rw [← e] at hf6 hn6
    have hap : ¬ vh.ownBlock = some b := blk_own hV.he hV.blk (by decide)
    have hB6 : Blk W6 b (stC S vr vh vc) 76 := hV.blk.frm hf6 hap
    have hR6 : Io W6 B vr S.res := hV.re.frm hf6 (fun k hk hi => absurd ((own_kindR hV.he hk).uniq hi) (by decide))
    have hC6 : EO E2 85 W6 B vc S.ct := own_at hV.ce fun g hg => hf6.other g (World.ownsRow.lt hV.ce g hg).2 (fun hk => sep_ty hV.he hV.ce (by decide) g hk hg)
    have m6 : Ms b vc w W6 vh v6 := (ms_below vh (ab_trans hw hHeld)).trans ⟨hf6.mono fun k hk => .inr (.inl hk), hn6⟩
    show K _ _
    refine hK.out _ _ ?_
    clear hK K
    rw [e66]
    have x9 : W6.cell? ⟨b, 9, none⟩ = some vh := hB6.at rfl
    have f9 := hB6.frozen 9
    have HO6 : Hid (EO E5 30 W6 B v6 (S.ho ++ [o])) := hO6
    have HE66 : Hid (v6 = .slice q6 (S.ho ++ [o]).length c6) := e66
    have HR6 : Hid (Io W6 B vr S.res) := hR6
    have HC6 : Hid (EO E2 85 W6 B vc S.ct) := hC6
    clear hO6 e66 hR6 hC6 hf6 hn6 hV hVe hHeld r0 r1 r2 r3 r4 r9
    generalize (S.ho ++ [o]).length = N6 at *
    try go_frame
    refine anyL_ready (rs := [7]) (by kernel_rfl) (by simp) (AllL.free rfl (by kernel_rfl) (fun K hK => ?_))
    go_simp
    refine hK.out _ _ ?_
    clear hK K
    try go_frame
    refine anyL_ready (rs := [8]) (by kernel_rfl) (by simp) (AllL.free rfl (by kernel_rfl) (fun K hK => ?_))
    go_simp
    refine hK.out _ _ ?_
    clear hK K
    try go_frame
    refine anyL_ready (rs := [9]) (by kernel_rfl) (by simp) (AllL.free rfl (by kernel_rfl) (fun K hK => ?_))
    go_simp
    refine hK.out _ _ ?_
    clear hK K
    refine anyL_done (by kernel_rfl) ?_
    have hB7 : Blk (W6.setCell ⟨b, 9, none⟩ (.slice q6 N6 c6)) b (stC S vr (.slice q6 N6 c6) vc) 76 := hB6.set 9 (.slice q6 N6 c6)
    have k7 := chg_set W6 b 9 (.slice q6 N6 c6)
    have m7 := m6.trans (ms_set (b := b) (vc := vc) W6 v6 9 (.slice q6 N6 c6))
    have g3 : (W6.setCell ⟨b, 9, none⟩ (.slice q6 N6 c6)).cell? ⟨b, 3, none⟩ = some (.int .i64 S.nx) := hB7.at rfl
    have fr3 := hB7.frozen 3
    generalize W6.setCell ⟨b, 9, none⟩ (.slice q6 N6 c6) = W7 at *
    have hn0 := h.ok.n0
    go_wp2_with fail
    go_ret
    have k8 := chg_set W7 b 3 (.int .i64 (S.nx + 1))
    have hap6 : v6.ownBlock ≠ some b := blk_own HO6.out hB6 (by decide)
    have hO8 := own_chgT (own_chgT HO6.out k7 hap6) k8 hap6
    have hapc : vc.ownBlock ≠ some b := blk_own HC6.out hB6 (by decide)
    have hapr : vr.ownBlock ≠ some b := blk_own HR6.out hB6 (by decide)
    have hB8 := hB7.set 3 (.int .i64 (S.nx + 1))
    rw [← HE66.out] at hB8
    exact ⟨rfl, v6, ⟨hB8, h.ge, own_chgT (own_chgT HR6.out k7 hapr) k8 hapr, hO8, own_chgT (own_chgT HC6.out k7 hapc) k8 hapc, HOK.out⟩, m7.trans (ms_set _ _ _ _)⟩
  · have hN : putN S o = 8 := by unfold putN; rw [if_neg (by simp [ho]), if_pos hk, c]; rfl
    have hS := putS_no (S := S) (o := o) (by rw [hN]; decide)
    rw [hN, hS]
    clear hN hS ho hk
    unfold opA at hE
    unfold opV opA
    go_enter Tryz.func57, Tryz.ntmps57
    go_wp2_with (go_at_call 29; refine (spast_any o.t _ hA).mono ?_; rintro e A ⟨rfl, rfl⟩; rw [c])
    go_ret
    exact ⟨rfl, _, hA, ms_below _ hw⟩
/-- An operation into the middle of a block. -/
theorem st_opAt {ops : Array Oper} {rest : List Oper} {o : Oper} {a : Act} {w : World} {Q : Exit → Act → World → Prop} (hw : Region.wanted o (yielded ops a.tmps) = true) {x y : Operand} (ho : o.op = .store 30 x y) {b off : Nat} {arr : Array Value} {t : TypeId} {k1 : Op5} (hB : Blk w b arr t) (hsz : off + 5 ≤ arr.size) (hx : a.eval x = .pointer (some ⟨b, off, none⟩)) (hy : a.eval y = opV k1)
    (h : ∀ W', Blk W' b (setA arr off (opA k1).toList) t → Chg b w W' → wpList Tryz.prog ops Q rest (a.put o.dst undef) W') : wpList Tryz.prog ops Q (o :: rest) a w := by
  obtain ⟨h1, h2⟩ := blk_setCells (opA k1).toList off w arr hB
  unfold wpList
  rw [if_pos hw]
  left
  refine wp_store_mid 30 x y ho b off (opA k1) hx hy (fun j hj => ⟨?_, hB.frozen _⟩) (info_op5 k1) (by simp [opA, Value.oneCell']) (h _ h1 h2)
  rw [hB.cell]
  have : j < 5 := hj
  rw [Array.getElem?_eq_getElem (by omega)]
  rfl
theorem sputMark_any {B b : Nat} {vr vh vc : Value} {S : Sm} (o : Op5) (w : World) (h : Sq w B b vr vh vc S) (ho : o.s = S.nx) (hk : o.k = 2) (hf : Fit5 o) (hn : S.nx < 9223372036854775807) (hl : S.ho.length < 100000) :
    Calls Tryz.prog 58 #[sptr b, opV o] w fun e w' => e = .returned (errV (putN S o)) ∧ ∃ vh', Sq w' B b vr vh' vc (putS S o) ∧ Ms b vc w w' vh vh' := by
  obtain ⟨A, hE, hX, hw⟩ := blk1 w (opA o) 30
  have hA := h.keep hw
  have d0 : A.cell? ⟨w.heap.size, 0, none⟩ = some (.int .i64 o.s) := hX.at rfl
  have d1 : A.cell? ⟨w.heap.size, 1, none⟩ = some (.int .i64 o.k) := hX.at rfl
  have d2 : A.cell? ⟨w.heap.size, 2, none⟩ = some (.int .i64 o.t) := hX.at rfl
  have d3 : A.cell? ⟨w.heap.size, 3, none⟩ = some (.int .i64 o.y) := hX.at rfl
  have d4 : A.cell? ⟨w.heap.size, 4, none⟩ = some (.int .i64 o.v) := hX.at rfl
  cases c : pas S o.t
  · cases d : decide (o.y = 0 ∧ o.v = 0)
    · have hN : putN S o = 2 := by unfold putN; rw [if_neg (by simp [ho]), if_neg (by rw [hk]; decide), if_pos hk, c, if_neg (by decide), if_neg (of_decide_eq_false d)]
      have hS := putS_no (S := S) (o := o) (by rw [hN]; decide)
      rw [hN, hS]
      clear hN hS ho hk
      have hA' := hA
      unfold opA at hE
      unfold opV opA
      go_enter Tryz.func58, Tryz.ntmps58
      go_wp2_with (first
        | (go_at_call 29; refine (spast_any o.t _ hA).mono ?_; rintro e A ⟨rfl, rfl⟩; rw [c])
        | (go_at_call 85; refine (sbare_any o _).mono ?_; rintro e W2 ⟨rfl, b2⟩; rw [d]))
      go_ret
      exact ⟨rfl, _, hA'.keep b2, ms_below _ (ab_trans hw b2)⟩
    · have hN : putN S o = 0 := by unfold putN; rw [if_neg (by simp [ho]), if_neg (by rw [hk]; decide), if_pos hk, c, if_neg (by decide), if_pos (of_decide_eq_true d)]
      have hS := putS_mark hN (by rw [hk]; decide)
      have hOK := oks_put h.ok hf hn hl
      rw [hN, hS]
      rw [hS] at hOK
      have HOK : Hid (Oks { S with mr := o, nx := S.nx + 1 }) := hOK
      clear hN hS hOK ho hk
      unfold opA at hE
      unfold opV opA
      go_enter Tryz.func58, Tryz.ntmps58
      go_upto_region 5 with (first
        | (go_at_call 29; refine (spast_any o.t _ hA).mono ?_; rintro e A ⟨rfl, rfl⟩; rw [c])
        | (go_at_call 85; refine (sbare_any o _).mono ?_; rintro e W2 ⟨rfl, b2⟩; rw [d]))
      have hV := hA.keep b2
      have hX2 := hX.keep b2
      have g0 : W2.cell? ⟨w.heap.size, 0, none⟩ = some (.int .i64 o.s) := hX2.at rfl
      have g1 : W2.cell? ⟨w.heap.size, 1, none⟩ = some (.int .i64 o.k) := hX2.at rfl
      have g2 : W2.cell? ⟨w.heap.size, 2, none⟩ = some (.int .i64 o.t) := hX2.at rfl
      have g3 : W2.cell? ⟨w.heap.size, 3, none⟩ = some (.int .i64 o.y) := hX2.at rfl
      have g4 : W2.cell? ⟨w.heap.size, 4, none⟩ = some (.int .i64 o.v) := hX2.at rfl
      have hm2 : Ms b vc w W2 vh vh := ms_below vh (ab_trans hw b2)
      have hapc : vc.ownBlock ≠ some b := blk_own hV.ce hV.blk (by decide)
      have hapr : vr.ownBlock ≠ some b := blk_own hV.re hV.blk (by decide)
      have haph : vh.ownBlock ≠ some b := blk_own hV.he hV.blk (by decide)
      clear hE d0 d1 d2 d3 d4 hX hX2 hA b2 hw
      go_upto_region 6 with (refine st_opAt rfl rfl (k1 := o) hV.blk (by show 4 + 5 ≤ 11; omega) rfl rfl ?_; intro W3 hB3 C3)
      have hB3' : Blk W3 b (stC { S with mr := o } vr vh vc) 76 := hB3
      have x3 : W3.cell? ⟨b, 3, none⟩ = some (.int .i64 S.nx) := hB3'.at rfl
      have f3 := hB3'.frozen 3
      have hn0 := h.ok.n0
      clear g0 g1 g2 g3 g4 hB3
      go_wp2_with fail
      go_ret
      have k8 := chg_set W3 b 3 (.int .i64 (S.nx + 1))
      have hm3 := hm2.trans (⟨frm_chg (C3.trans k8) (.inl rfl), fun _ h => .inl h⟩ : Ms b vc W2 (W3.setCell ⟨b, 3, none⟩ (.int .i64 (S.nx + 1))) vh vh)
      exact ⟨rfl, vh, ⟨hB3'.set 3 (.int .i64 (S.nx + 1)), h.ge, own_chgT hV.re (C3.trans k8) hapr, own_chgT hV.he (C3.trans k8) haph, own_chgT hV.ce (C3.trans k8) hapc, HOK.out⟩, hm3⟩
  · have hN : putN S o = 9 := by unfold putN; rw [if_neg (by simp [ho]), if_neg (by rw [hk]; decide), if_pos hk, c]; rfl
    have hS := putS_no (S := S) (o := o) (by rw [hN]; decide)
    rw [hN, hS]
    clear hN hS ho hk
    unfold opA at hE
    unfold opV opA
    go_enter Tryz.func58, Tryz.ntmps58
    go_wp2_with (go_at_call 29; refine (spast_any o.t _ hA).mono ?_; rintro e A ⟨rfl, rfl⟩; rw [c])
    go_ret
    exact ⟨rfl, _, hA, ms_below _ hw⟩
end Go.Proofs.YthmolbcnbcajdaaGreat
namespace Go.Proofs.YthmolbcnbcajdaaGreat
open Go.RowKit
set_option linter.unusedVariables false
set_option maxRecDepth 100000

set_option maxHeartbeats 2000000 in
theorem sput_any {B b : Nat} {vr vh vc : Value} {S : Sm} (o : Op5) (w : World) (h : Sq w B b vr vh vc S) (hf : Fit5 o) (hn : S.nx < 9223372036854775807) (hl : S.ho.length < 100000) :
    Calls Tryz.prog 34 #[sptr b, opV o] w fun e w' => e = .returned (errV (putN S o)) ∧ ∃ vh', Sq w' B b vr vh' vc (putS S o) ∧ Ms b vc w w' vh vh' := by
  obtain ⟨A, hE, hX, hw⟩ := blk1 w (opA o) 30
  have hA := h.keep hw
  have d0 : A.cell? ⟨w.heap.size, 0, none⟩ = some (.int .i64 o.s) := hX.at rfl
  have d1 : A.cell? ⟨w.heap.size, 1, none⟩ = some (.int .i64 o.k) := hX.at rfl
  have d2 : A.cell? ⟨w.heap.size, 2, none⟩ = some (.int .i64 o.t) := hX.at rfl
  have d3 : A.cell? ⟨w.heap.size, 3, none⟩ = some (.int .i64 o.y) := hX.at rfl
  have d4 : A.cell? ⟨w.heap.size, 4, none⟩ = some (.int .i64 o.v) := hX.at rfl
  have c3 : A.cell? ⟨b, 3, none⟩ = some (.int .i64 S.nx) := hA.blk.at rfl
  clear hX
  by_cases cs : o.s = S.nx
  · have hb0 : (o.s != S.nx) = false := by simp [cs]
    by_cases k1 : o.k = 1
    · have hc := fun (W : World) (hW : Sq W B b vr vh vc S) => sputSample_any o W hW cs k1 hf hn hl
      have hb1 : (o.k == 1) = true := by simp [k1]
      clear cs k1
      unfold opA at hE
      unfold opV opA
      go_enter Tryz.func34, Tryz.ntmps34
      go_upto_region 1 with fail
      go_quiet (fail)
      go_wp2_with (go_at_call 57; refine (hc _ (hA.keep (ab_drewN (Below.refl _ _) _))).mono ?_; rintro e W3 ⟨rfl, vh3, h3, m3⟩)
      go_ret
      exact ⟨rfl, vh3, h3, (ms_below _ (ab_drewN hw _)).trans m3⟩
    · have hb1 : (o.k == 1) = false := by simp [k1]
      by_cases k2 : o.k = 2
      · have hc := fun (W : World) (hW : Sq W B b vr vh vc S) => sputMark_any o W hW cs k2 hf hn hl
        have hb2 : (o.k == 2) = true := by simp [k2]
        clear cs k1 k2
        unfold opA at hE
        unfold opV opA
        go_enter Tryz.func34, Tryz.ntmps34
        go_upto_region 1 with fail
        go_quiet (fail)
        go_wp2_with (go_at_call 58; refine (hc _ (hA.keep (ab_drewN (Below.refl _ _) _))).mono ?_; rintro e W3 ⟨rfl, vh3, h3, m3⟩)
        go_ret
        exact ⟨rfl, vh3, h3, (ms_below _ (ab_drewN hw _)).trans m3⟩
      · have hN : putN S o = 2 := by unfold putN; rw [if_neg (by simp [cs]), if_neg k1, if_neg k2]
        have hS := putS_no (S := S) (o := o) (by rw [hN]; decide)
        rw [hN, hS]
        have hb2 : (o.k == 2) = false := by simp [k2]
        clear cs k1 k2 hN hS
        unfold opA at hE
        unfold opV opA
        go_enter Tryz.func34, Tryz.ntmps34
        go_upto_region 1 with fail
        go_quiet (fail)
        go_wp2_with fail
        go_ret
        exact ⟨rfl, vh, hA.keep (ab_drewN (Below.refl _ _) _), ms_below _ (ab_drewN hw _)⟩
  · have hN : putN S o = 2 := by unfold putN; rw [if_pos cs]
    have hS := putS_no (S := S) (o := o) (by rw [hN]; decide)
    rw [hN, hS]
    have hb0 : (o.s != S.nx) = true := by simp [cs]
    clear cs hN hS
    unfold opA at hE
    unfold opV opA
    go_enter Tryz.func34, Tryz.ntmps34
    go_upto_region 1 with fail
    go_quiet (fail)
    go_wp2_with fail
    go_ret
    exact ⟨rfl, vh, hA.keep (ab_drewN (Below.refl _ _) _), ms_below _ (ab_drewN hw _)⟩
set_option maxHeartbeats 1000000 in
theorem sput_nil (o : Op5) (w : World) : Calls Tryz.prog 34 #[.pointer none, opV o] w fun e w' => e = .returned (Err 2) ∧ Below w.heap.size w w' := by
  obtain ⟨A, hE, hX, hw⟩ := blk1 w (opA o) 30
  unfold opA at hE
  unfold opV opA
  go_enter Tryz.func34, Tryz.ntmps34
  go_upto_region 1 with fail
  go_quiet (fail)
  go_wp2_with fail
  go_ret
  exact ⟨rfl, ab_drewN hw _⟩
end Go.Proofs.YthmolbcnbcajdaaGreat
namespace Go.Proofs.YthmolbcnbcajdaaGreat
open Go.RowKit
set_option linter.unusedVariables false
set_option maxRecDepth 100000

/-- What the closure of Cut reads. -/
structure Cw (W : World) (B bs b : Nat) (vr vh vc : Value) (S : Sm) : Prop where
  bx : Blk W bs #[sptr b] 41
  blk : Blk W b (stC S vr vh vc) 76
  re : Io W B vr S.res
  ce : EO E2 85 W B vc S.ct
  ok : Oks S
theorem Cw.keep {W W' : World} {B bs b : Nat} {vr vh vc : Value} {S : Sm} (h : Cw W B bs b vr vh vc S) (hb : Below W.heap.size W W') : Cw W' B bs b vr vh vc S :=
  ⟨h.bx.keep hb, h.blk.keep hb, h.re.keep hb, h.ce.keep hb, h.ok⟩
/-- A row of operations turns. -/
theorem Cw.chg {W W' : World} {B bs b g : Nat} {vr vh vc : Value} {S : Sm} (h : Cw W B bs b vr vh vc S) (hc : Chg g W W') (hk : kindR W g 30) : Cw W' B bs b vr vh vc S := by
  have h1 : bs ≠ g := fun e => absurd (h.bx.kindR.uniq (e ▸ hk)) (by decide)
  have h2 : b ≠ g := fun e => absurd (h.blk.kindR.uniq (e ▸ hk)) (by decide)
  exact ⟨h.bx.chg hc h1, h.blk.chg hc h2, own_chgT h.re hc (fun e => absurd ((own_kindR h.re e).uniq hk) (by decide)), own_chgT h.ce hc (fun e => absurd ((own_kindR h.ce e).uniq hk) (by decide)), h.ok⟩
theorem Rw.kind {α : Type} {E : En α} {e : TypeId} {W : World} {g cap : Nat} {L : List α} (h : Rw E e W g cap L) : kindR W g e := by
  obtain ⟨_, _, cur, hB, _⟩ := h
  exact hB.kindR
theorem covered5 (o : Op5) {W : World} {B : Nat} {vr vc : Value} {S : Sm} (hr : Is W vr S.res) (hc : ER E2 W vc S.ct) (hok : Oks S) (hf : Fit5 o) :
    Calls Tryz.prog 72 #[opV o, vr, .int .i64 S.sh, vc] W fun e w' => e = .returned (.bool (cov5 S o)) ∧ Below W.heap.size W w' := by
  obtain ⟨q, cap, g, off, rfl, hcc, hm, hp, hg, hro⟩ := hr
  obtain ⟨q2, cap2, g2, off2, rfl, hc2, hm2, hp2, hg2, hr2⟩ := hc.row2
  exact covered_any o.s o.k o.t o.y o.v q g off S.res.length cap S.res S.sh q2 g2 off2 S.ct.length cap2 S.ct W rfl (by have := hok.r1; omega) hp hg hro hf.t.1 hf.t.2 hf.y.1 hf.y.2 (by have := hok.s1; omega) (fun j r h => (hok.rr r (List.mem_of_getElem? h)).2) rfl hp2 hg2 hr2
set_option maxHeartbeats 1000000 in
theorem scut1_any (o : Op5) {B bs b : Nat} {vr vh vc : Value} {S : Sm} (w : World) (h : Cw w B bs b vr vh vc S) (hf : Fit5 o) :
    Calls Tryz.prog 71 #[opV o, .pointer (some ⟨bs, 0, none⟩)] w fun e w' => e = .returned (.bool (cov5 S o)) ∧ Below w.heap.size w w' := by
  obtain ⟨A, hE, hX, hw⟩ := blk1 w (opA o) 30
  have hA := h.keep hw
  obtain ⟨qr, cr, er⟩ := hA.re.is.form
  obtain ⟨qc, cc, ec⟩ := hA.ce.form
  have y0 : ∀ y : Cls A, y.val.cell? ⟨w.heap.size, 0, none⟩ = some (.int .i64 o.s) := fun y => (hX.keep y.prop).at rfl
  have y1 : ∀ y : Cls A, y.val.cell? ⟨w.heap.size, 1, none⟩ = some (.int .i64 o.k) := fun y => (hX.keep y.prop).at rfl
  have y2 : ∀ y : Cls A, y.val.cell? ⟨w.heap.size, 2, none⟩ = some (.int .i64 o.t) := fun y => (hX.keep y.prop).at rfl
  have y3 : ∀ y : Cls A, y.val.cell? ⟨w.heap.size, 3, none⟩ = some (.int .i64 o.y) := fun y => (hX.keep y.prop).at rfl
  have y4 : ∀ y : Cls A, y.val.cell? ⟨w.heap.size, 4, none⟩ = some (.int .i64 o.v) := fun y => (hX.keep y.prop).at rfl
  have x0 : ∀ y : Cls A, y.val.cell? ⟨bs, 0, none⟩ = some (sptr b) := fun y => (hA.bx.keep y.prop).at rfl
  have x1 : ∀ y : Cls A, y.val.cell? ⟨b, 0, none⟩ = some vr := fun y => (hA.blk.keep y.prop).at rfl
  have x2 : ∀ y : Cls A, y.val.cell? ⟨b, 1, none⟩ = some (.int .i64 S.sh) := fun y => (hA.blk.keep y.prop).at rfl
  have x3 : ∀ y : Cls A, y.val.cell? ⟨b, 10, none⟩ = some vc := fun y => (hA.blk.keep y.prop).at rfl
  have HQ : ∀ y : Cls A, Calls Tryz.prog 72 #[opV o, vr, .int .i64 S.sh, vc] y.val fun e w' => e = .returned (.bool (cov5 S o)) ∧ Below y.val.heap.size y.val w' := fun y => covered5 (B := B) o (hA.re.is.keep y.prop) (hA.ce.er.keep y.prop) hA.ok hf
  rw [er] at x1 HQ
  rw [ec] at x3 HQ
  unfold opA at hE
  unfold opV opA
  unfold opV opA at HQ
  go_enter Tryz.func71, Tryz.ntmps71
  go_upto_region 1 with fail
  have HZ := cls_some A
  refine wp_region_below (by kernel_rfl) (by kernel_rfl) ?_
  repeat (go_big_quiet_step (first | (go_at_call 72; exact calls_below (HQ _))))
  refine wpQuiet_nil ?_
  rintro _ ⟨y, rfl⟩
  go_wp2_with fail
  go_ret
  exact ⟨rfl, ab_trans hw y.prop⟩
/-- The function value that Cut hands over. -/
abbrev cutV (bs : Nat) : Value := .func (.func 71) #[] #[.pointer (some ⟨bs, 0, none⟩)]
set_option maxHeartbeats 1000000 in
theorem sindexf_any (v : Value) (l : List Op5) {B bs b : Nat} {vr vh vc : Value} {S : Sm} (w : World) (hv : ER E5 w v l) (h : Cw w B bs b vr vh vc S) (hf : ∀ o ∈ l, Fit5 o) (hl : l.length ≤ 100000) :
    Calls Tryz.prog 95 #[v, cutV bs] w fun e w' => ∃ i : Int, e = .returned (.int .i64 i) ∧ ((i = -1 ∧ ∀ o ∈ l, cov5 S o = false) ∨ (∃ k : Nat, i = (k : Int) ∧ k < l.length ∧ (∀ o ∈ l.take k, cov5 S o = false) ∧ ∀ o, l[k]? = some o → cov5 S o = true)) ∧ Below w.heap.size w w' := by
  obtain ⟨q, cap, g, off, rfl, hc, hm, hp, hr⟩ := hv.at
  generalize hn : l.length = n at *
  go_enter Tryz.func95, Tryz.ntmps95
  go_wp2_with fail
  go_loopw [8] (fun i wr => ∃ k : Nat, k ≤ n ∧ i = .int .i64 (k : Int) ∧ (∀ x ∈ l.take k, cov5 S x = false) ∧ Below w.heap.size w wr) (fun i _ => n - (intOf i).toNat)
  case atStart => exact ⟨0, by omega, rfl, fun x hx => by simp at hx, Below.refl _ _⟩
  case round =>
    obtain ⟨k, hk, rfl, hall, hw⟩ := hrel
    by_cases c : k = n
    · subst c
      have HV : Hid (∀ o ∈ l, cov5 S o = false) := by
        rw [List.take_of_length_le (by omega)] at hall
        exact hall
      clear hall hr
      go_wp2_with fail
      go_ret
      exact ⟨-1, rfl, .inl ⟨rfl, HV.out⟩, hw⟩
    · obtain ⟨o, ho⟩ : ∃ o, l[k]? = some o := ⟨l[k], List.getElem?_eq_getElem (by omega)⟩
      obtain ⟨rfl, hgk⟩ := hp (by omega)
      have z0 := keep_cell hw (hr k o ho 0 _ rfl) hgk
      have z1 := keep_cell hw (hr k o ho 1 _ rfl) hgk
      have z2 := keep_cell hw (hr k o ho 2 _ rfl) hgk
      have z3 := keep_cell hw (hr k o ho 3 _ rfl) hgk
      have z4 := keep_cell hw (hr k o ho 4 _ rfl) hgk
      rw [Nat.add_zero, show E5.k = 5 from rfl] at z0
      rw [show E5.k = 5 from rfl] at z1 z2 z3 z4
      have hki : (k : Int) < (n : Int) := by omega
      have hcw := h.keep hw
      have hfo := hf o (List.mem_of_getElem? ho)
      have HC := scut1_any o wr hcw hfo
      unfold opV opA at HC
      cases hcv : cov5 S o
      · have HV : Hid (∀ x ∈ l.take (k + 1), cov5 S x = false) := by
          intro x hm
          rw [List.take_add_one, ho] at hm
          simp only [Option.toList_some, List.mem_append, List.mem_singleton] at hm
          rcases hm with hm | rfl
          · exact hall x hm
          · exact hcv
        rw [hcv] at HC
        clear hall hr
        go_wp2_with (go_at_call 71; refine HC.mono ?_; rintro e W2 ⟨rfl, b2⟩)
        go_roundw
        case rel => exact ⟨k + 1, by omega, by go_num, HV.out, ab_trans hw b2⟩
        case measure => simp [intOf]; omega
      · have HA : Hid (∀ o ∈ l.take k, cov5 S o = false) := hall
        have HB : Hid (∀ x, l[k]? = some x → cov5 S x = true) := fun x hx => by rw [ho] at hx; cases hx; exact hcv
        rw [hcv] at HC
        clear hall hr
        go_wp2_with (go_at_call 71; refine HC.mono ?_; rintro e W2 ⟨rfl, b2⟩)
        go_ret
        exact ⟨(k : Int), rfl, .inr ⟨k, rfl, by omega, HA.out, HB.out⟩, ab_trans hw b2⟩
end Go.Proofs.YthmolbcnbcajdaaGreat
namespace Go.Proofs.YthmolbcnbcajdaaGreat
open Go.RowKit
set_option linter.unusedVariables false
set_option maxRecDepth 100000

theorem zeroO (w : World) : (zeroValue 30).run Tryz.prog w = .ok (.agg (opA zOp)) w := by kernel_rfl
/-- An operation into a row of them. -/
theorem st_rw {ops : Array Oper} {rest : List Oper} {o : Oper} {a : Act} {w : World} {Q : Exit → Act → World → Prop} (hw : Region.wanted o (yielded ops a.tmps) = true) {x y : Operand} (ho : o.op = .store 30 x y) {g cap i : Nat} {L : List Op5} {c : Op5} (h : Rw E5 30 w g cap L) (hi : i < L.length) (hx : a.eval x = .pointer (some ⟨g, i * 5, none⟩)) (hy : a.eval y = opV c)
    (hK : ∀ W', Rw E5 30 W' g cap (L.set i c) → Chg g w W' → wpList Tryz.prog ops Q rest (a.put o.dst undef) W') : wpList Tryz.prog ops Q (o :: rest) a w := by
  obtain ⟨h1, h2, h3⟩ := h.stored hi c
  unfold wpList
  rw [if_pos hw]
  left
  exact wp_store_mid 30 x y ho g (i * 5) (opA c) hx hy h3 (info_op5 c) (by simp [opA, Value.oneCell']) (hK _ h1 h2)
/-- clear, where its run is known. -/
theorem clr_l {P : Program} {ops : Array Oper} {rest : List Oper} {o : Oper} {a : Act} {w : World} {Q : Exit → Act → World → Prop} (hw : Region.wanted o (yielded ops a.tmps) = true) {x : Operand} {t : TypeId} (ho : o.op = .call { callee := .builtin .clear, args := #[x], argTypes := #[t] }) (v : Value) (hx : a.eval x = v) {v' : Value} {w' : World}
    (hr : ∀ ty, (Builtin.clear_ #[t] ty #[v]).run P w = .ok v' w') (h : wpList P ops Q rest (a.put o.dst v') w') : wpList P ops Q (o :: rest) a w := by
  unfold wpList
  rw [if_pos hw]
  left
  unfold Oper.wp execOp
  simp only [ho, resolve, invoke, builtin, Sem.run_bind, Sem.run_pure, Result.andThen_ok, List.map_toArray, List.map_cons, List.map_nil, hx, hr]
  exact h
/-- How far DeleteFunc has come. -/
structure Dl (l L : List Op5) (p : Op5 → Bool) (i j : Nat) : Prop where
  len : L.length = l.length
  lt : i < j
  le : j ≤ l.length
  fst : L.take i = (l.take j).filter p
  lst : L.drop j = l.drop j
theorem Dl.i {l L : List Op5} {p : Op5 → Bool} {i j : Nat} (h : Dl l L p i j) : i = ((l.take j).filter p).length := by
  rw [← h.fst, List.length_take, h.len, Nat.min_eq_left (by have := h.lt; have := h.le; omega)]
theorem filt_snoc {l : List Op5} {p : Op5 → Bool} {j : Nat} {o : Op5} (ho : l[j]? = some o) : (l.take (j + 1)).filter p = (l.take j).filter p ++ (if p o = true then [o] else []) := by
  rw [List.take_add_one, ho, List.filter_append]
  congr 1
  simp only [Option.toList_some, List.filter_cons, List.filter_nil]
theorem Dl.at {l L : List Op5} {p : Op5 → Bool} {i j : Nat} (h : Dl l L p i j) (hj : j < l.length) : L[j]? = l[j]? := by
  have e1 := List.getElem?_drop (xs := L) (i := j) (j := 0)
  have e2 := List.getElem?_drop (xs := l) (i := j) (j := 0)
  rw [Nat.add_zero] at e1 e2
  rw [← e1, ← e2, h.lst]
theorem Dl.skip {l L : List Op5} {p : Op5 → Bool} {i j : Nat} {o : Op5} (h : Dl l L p i j) (ho : l[j]? = some o) (hp : p o = false) : Dl l L p i (j + 1) := by
  have hj := (List.getElem?_eq_some_iff.1 ho).1
  refine ⟨h.len, by have := h.lt; omega, hj, ?_, ?_⟩
  · rw [filt_snoc ho, hp, h.fst]; simp
  · rw [← List.drop_drop, ← List.drop_drop, h.lst]
theorem Dl.take {l L : List Op5} {p : Op5 → Bool} {i j : Nat} {o : Op5} (h : Dl l L p i j) (ho : l[j]? = some o) (hp : p o = true) : Dl l (L.set i o) p (i + 1) (j + 1) := by
  have hj := (List.getElem?_eq_some_iff.1 ho).1
  have hlt := h.lt
  have hi : i < L.length := by rw [h.len]; omega
  refine ⟨by rw [List.length_set, h.len], by omega, hj, ?_, ?_⟩
  · rw [filt_snoc ho, hp, ← h.fst, List.take_add_one, List.take_set_of_le (Nat.le_refl _), List.getElem?_set_self hi]; simp
  · rw [List.drop_set_of_lt (by omega), ← List.drop_drop, ← List.drop_drop, h.lst]
theorem Dl.start {l : List Op5} {p : Op5 → Bool} {k : Nat} (hk : k < l.length) (h1 : ∀ o ∈ l.take k, p o = true) (h2 : ∀ o, l[k]? = some o → p o = false) : Dl l l p k (k + 1) := by
  obtain ⟨o, ho⟩ : ∃ o, l[k]? = some o := ⟨l[k], List.getElem?_eq_getElem hk⟩
  refine ⟨rfl, by omega, hk, ?_, rfl⟩
  rw [filt_snoc ho, h2 o ho, List.filter_eq_self.2 h1]; simp
set_option maxHeartbeats 2000000 in
theorem sdelete_any (l : List Op5) (v : Value) {B bs b : Nat} {vr vh vc : Value} {S : Sm} (w : World) (hO : EO E5 30 w B v l) (h : Cw w B bs b vr vh vc S) (hf : ∀ o ∈ l, Fit5 o) (hl : l.length ≤ 100000) :
    Calls Tryz.prog 73 #[v, cutV bs] w fun e w' => ∃ v', e = .returned v' ∧ EO E5 30 w' B v' (l.filter fun o => !cov5 S o) ∧ Frm (fun k => v.ownBlock = some k) w w' ∧ ∀ r, v'.ownBlock = some r → v.ownBlock = some r := by
  obtain ⟨q, cap, g, off, rfl, hc, hm, hp, -⟩ := hO.er
  have HO : Hid (EO E5 30 w B (.slice q l.length cap) l) := hO
  have hER := hO.er
  clear hO
  go_enter Tryz.func73, Tryz.ntmps73
  go_upto_region 2 with (go_at_call 95; refine (sindexf_any _ l _ hER h hf hl).mono ?_; rintro e W1 ⟨i, rfl, hi, b1⟩)
  have HO1 : Hid (EO E5 30 W1 B (.slice q l.length cap) l) := HO.out.keep b1
  have h1 := h.keep b1
  have hfr1 : Frm (fun k => (Value.slice q l.length cap).ownBlock = some k) w W1 := frm_below b1
  clear h HO hER b1
  rcases hi with ⟨rfl, hall⟩ | ⟨k, rfl, hk, hbef, hat⟩
  · have HV : Hid (l.filter (fun o => !cov5 S o) = l) := by
      show _ = _
      rw [List.filter_eq_self]
      intro o ho
      rw [hall o ho]; rfl
    clear hall
    go_wp2_with fail
    go_ret
    exact ⟨_, rfl, by rw [HV.out]; exact HO1.out, hfr1, fun r hr => hr⟩
  · have hD0 : Dl l l (fun o => !cov5 S o) k (k + 1) := Dl.start hk (fun o ho => by rw [hbef o ho]; rfl) (fun o ho => by rw [hat o ho]; rfl)
    obtain ⟨rfl, -⟩ := hp (by omega)
    clear hbef hat hp
    have hoff : off = 0 := by
      have := HO1.out.2
      rcases this with ⟨h2, _⟩ | ⟨g', cap', cur, e1, _⟩
      · cases h2
      · cases e1; rfl
    subst hoff
    obtain ⟨hR1, hBg⟩ := HO1.out.rw
    have hkm : ¬ ((k : Int) = -1) := by omega
    generalize hn : l.length = n at *
    clear HO1
    go_wp2_with fail
    go_loopw [5, 6] (fun x y wr => ∃ (i j : Nat) (L : List Op5), x = .int .i64 (i : Int) ∧ y = .int .i64 (j : Int) ∧ Dl l L (fun o => !cov5 S o) i j ∧ Rw E5 30 wr g cap L ∧ Cw wr B bs b vr vh vc S ∧ Frm (fun k => (Value.slice (some ⟨g, 0, none⟩) n cap).ownBlock = some k) w wr) (fun _ y _ => n - (intOf y).toNat)
    case atStart => exact ⟨k, k + 1, l, rfl, by go_num, hD0, hR1, h1, hfr1⟩
    case round =>
      clear hD0 hR1 h1 hfr1
      obtain ⟨i, j, L, rfl, rfl, hD, hR, hC, hF⟩ := hrel
      have hLl := hD.len
      have hij := hD.lt
      have hjn := hD.le
      rw [hn] at hLl hjn
      by_cases c : j = n
      · subst c
        have hnc := hR.1
        rw [hLl] at hnc
        obtain ⟨o', es, ho'⟩ := sliced_some g 0 i j cap 5
        have ho2 := ho' (by omega)
        rw [Nat.zero_add] at ho2
        subst ho2
        have hcl := fun (ty : TypeId) => rw_clear (P := Tryz.prog) (ty := ty) (c := cap - i) zOp rfl Tryz.underlying23 zeroO hR (i := i) (n := j - i) (by omega) (by omega)
        obtain ⟨W2, hr2, hR2, C2⟩ := hcl 0
        have hr2' : ∀ ty, (Builtin.clear_ #[23] ty #[.slice (some ⟨g, i * 5, none⟩) (j - i) (cap - i)]).run Tryz.prog wr = .ok (.tuple #[]) W2 := fun ty => hr2
        have HR2 := hR2.eo hBg (i := i) (by rw [List.length_append, List.length_append, List.length_take, List.length_replicate]; omega)
        have HT : Hid (EO E5 30 W2 B (.slice (some ⟨g, 0, none⟩) i cap) (l.filter fun o => !cov5 S o)) := by
          have e1 : (L.take i ++ List.replicate (j - i) zOp ++ L.drop (i + (j - i))).take i = L.take i := by
            rw [List.append_assoc, List.take_left' (by rw [List.length_take]; omega)]
          rw [e1, hD.fst, List.take_of_length_le (by omega)] at HR2
          exact HR2
        have hF2 := hF.trans (frm_chg (X := fun k => (Value.slice (some ⟨g, 0, none⟩) j cap).ownBlock = some k) C2 rfl)
        clear hcl hr2 hR2 HR2 hR hC C2 hD hF ho'
        go_wp2_with (first
          | (refine valS rfl _ (slo_l (o' := i * 5) rfl rfl rfl rfl eltO (sizeO _) (by omega) (by omega) es) ?_)
          | (refine valS rfl _ (slo_h rfl rfl rfl rfl eltO (sizeO _) (by omega)) ?_)
          | (refine clr_l rfl rfl _ rfl hr2' ?_))
        go_ret
        exact ⟨_, rfl, HT.out, hF2, fun r hr => hr⟩
      · have hji : (j : Int) < (n : Int) := by omega
        obtain ⟨o, ho⟩ : ∃ o, l[j]? = some o := ⟨l[j], List.getElem?_eq_getElem (by omega)⟩
        have hoL : L[j]? = some o := by rw [hD.at (by omega)]; exact ho
        have z0 : wr.cell? ⟨g, j * 5, none⟩ = some (.int .i64 o.s) := hR.cell (i := 0) hoL rfl
        have z1 : wr.cell? ⟨g, j * 5 + 1, none⟩ = some (.int .i64 o.k) := hR.cell (i := 1) hoL rfl
        have z2 : wr.cell? ⟨g, j * 5 + 2, none⟩ = some (.int .i64 o.t) := hR.cell (i := 2) hoL rfl
        have z3 : wr.cell? ⟨g, j * 5 + 3, none⟩ = some (.int .i64 o.y) := hR.cell (i := 3) hoL rfl
        have z4 : wr.cell? ⟨g, j * 5 + 4, none⟩ = some (.int .i64 o.v) := hR.cell (i := 4) hoL rfl
        obtain ⟨A, hE, hX, hw⟩ := blk1 wr (opA o) 30
        have HC := scut1_any o A (hC.keep hw) (hf o (List.mem_of_getElem? ho))
        have y0 : A.cell? ⟨wr.heap.size, 0, none⟩ = some (.int .i64 o.s) := hX.at rfl
        have y1 : A.cell? ⟨wr.heap.size, 1, none⟩ = some (.int .i64 o.k) := hX.at rfl
        have y2 : A.cell? ⟨wr.heap.size, 2, none⟩ = some (.int .i64 o.t) := hX.at rfl
        have y3 : A.cell? ⟨wr.heap.size, 3, none⟩ = some (.int .i64 o.y) := hX.at rfl
        have y4 : A.cell? ⟨wr.heap.size, 4, none⟩ = some (.int .i64 o.v) := hX.at rfl
        unfold opA at hE
        unfold opV opA at HC
        cases hcv : cov5 S o
        · rw [hcv] at HC
          go_upto_region 9 with (go_at_call 71; refine HC.mono ?_; rintro e W2 ⟨rfl, b2⟩)
          have HD : Hid (Dl l (L.set i o) (fun o => !cov5 S o) (i + 1) (j + 1)) := hD.take ho (by rw [hcv]; rfl)
          have hX2 := hX.keep b2
          have g0 : W2.cell? ⟨wr.heap.size, 0, none⟩ = some (.int .i64 o.s) := hX2.at rfl
          have g1 : W2.cell? ⟨wr.heap.size, 1, none⟩ = some (.int .i64 o.k) := hX2.at rfl
          have g2 : W2.cell? ⟨wr.heap.size, 2, none⟩ = some (.int .i64 o.t) := hX2.at rfl
          have g3 : W2.cell? ⟨wr.heap.size, 3, none⟩ = some (.int .i64 o.y) := hX2.at rfl
          have g4 : W2.cell? ⟨wr.heap.size, 4, none⟩ = some (.int .i64 o.v) := hX2.at rfl
          have bw := ab_trans hw b2
          have hR2 := hR.keep bw
          have hC2 := hC.keep bw
          have hF2 := hF.trans (frm_below bw)
          have hin : (i : Int) < (n : Int) := by omega
          have hiL : i < L.length := by omega
          clear hE y0 y1 y2 y3 y4 z0 z1 z2 z3 z4 hD HC hw b2 hX hR hC hF hX2
          go_wp2_with (refine st_rw rfl rfl (c := o) hR2 hiL rfl rfl ?_; intro W3 hR3 C3)
          have hC3 := hC2.chg C3 hR2.kind
          have hF3 := hF2.trans (frm_chg (X := fun k => (Value.slice (some ⟨g, 0, none⟩) n cap).ownBlock = some k) C3 rfl)
          refine ⟨⟨_, _, _, _, _, _, _, _, _, _, _, _, _, _, _, _, _, _, _, _, _, _, _, ?_, rfl⟩, ?_⟩
          · exact ⟨i + 1, j + 1, _, by go_num, by go_num, HD.out, hR3, hC3, hF3⟩
          · simp [intOf]; omega
        · have HD : Hid (Dl l L (fun o => !cov5 S o) i (j + 1)) := hD.skip ho (by rw [hcv]; rfl)
          rw [hcv] at HC
          clear hD
          go_wp2_with (go_at_call 71; refine HC.mono ?_; rintro e W2 ⟨rfl, b2⟩)
          have bw := ab_trans hw b2
          refine ⟨⟨_, _, _, _, _, _, _, _, _, _, _, _, _, _, _, _, _, _, _, _, _, _, _, ?_, rfl⟩, ?_⟩
          · exact ⟨i, j + 1, L, rfl, by go_num, HD.out, hR.keep bw, hC.keep bw, hF.trans (frm_below bw)⟩
          · simp [intOf]; omega
end Go.Proofs.YthmolbcnbcajdaaGreat
namespace Go.Proofs.YthmolbcnbcajdaaGreat
open Go.RowKit
set_option linter.unusedVariables false
set_option maxRecDepth 100000

theorem EO.at0 {α : Type} {E : En α} {e : TypeId} {W : World} {B : Nat} {v : Value} {l : List α} (h : EO E e W B v l) (hl : 0 < l.length) : ∃ g cap, v = .slice (some ⟨g, 0, none⟩) l.length cap := by
  rcases h.2 with ⟨_, h2⟩ | ⟨g, cap, cur, e1, _⟩
  · omega
  · exact ⟨g, cap, e1⟩
/-- The block of a slice isn't one of these. -/
def OutB (v : Value) (X : Nat → Prop) : Prop := ∀ a n c, v = .slice (some a) n c → ¬ X a.block
theorem ER.frm {α : Type} {E : En α} {W W' : World} {v : Value} {l : List α} {X : Nat → Prop} (h : ER E W v l) (hf : Frm X W W') (hx : OutB v X) : ER E W' v l := by
  obtain ⟨q, cap, g, off, h1, h2, h3, h4, h5⟩ := h
  refine ⟨q, cap, g, off, h1, h2, h3, fun h => ⟨(h4 h).1, Nat.lt_of_lt_of_le (h4 h).2 hf.size⟩, fun j u hu => ?_⟩
  have hl : 0 < l.length := by
    have := (List.getElem?_eq_some_iff.1 hu).1
    rw [E.fl_len] at this
    exact Nat.pos_of_ne_zero (fun e => by rw [e] at this; simp at this)
  obtain ⟨rfl, hg⟩ := h4 hl
  rw [← h5 j u hu]
  unfold World.cell?
  rw [hf.other g hg (hx _ _ _ h1)]
/-- How far the places of a cut have come. -/
def mixP (ct ps : List (Int × Int)) (k : Nat) : List (Int × Int) := List.zipWith mxP (ct.take k) (ps.take k) ++ ct.drop k
theorem mixP_0 (ct ps : List (Int × Int)) : mixP ct ps 0 = ct := by simp [mixP]
theorem mixP_all {ct ps : List (Int × Int)} (h : ps.length = ct.length) : mixP ct ps ct.length = List.zipWith mxP ct ps := by
  unfold mixP
  rw [List.take_of_length_le (Nat.le_refl _), List.take_of_length_le (by omega), List.drop_of_length_le (Nat.le_refl _), List.append_nil]
theorem mixP_len {ct ps : List (Int × Int)} (h : ps.length = ct.length) {k : Nat} (hk : k ≤ ct.length) : (mixP ct ps k).length = ct.length := by
  unfold mixP
  rw [List.length_append, List.length_zipWith, List.length_take, List.length_take, List.length_drop]; omega
theorem mixP_at {ct ps : List (Int × Int)} (h : ps.length = ct.length) {k : Nat} (hk : k < ct.length) : (mixP ct ps k)[k]? = ct[k]? := by
  unfold mixP
  have hl : (List.zipWith mxP (ct.take k) (ps.take k)).length = k := by rw [List.length_zipWith, List.length_take, List.length_take]; omega
  rw [List.getElem?_append_right (by omega), hl, Nat.sub_self, List.getElem?_drop, Nat.add_zero]
theorem mixP_next {ct ps : List (Int × Int)} (h : ps.length = ct.length) {k : Nat} {c p : Int × Int} (hc : ct[k]? = some c) (hp : ps[k]? = some p) : mixP ct ps (k + 1) = (mixP ct ps k).set k (mxP c p) := by
  have hk := (List.getElem?_eq_some_iff.1 hc).1
  have hl : (List.zipWith mxP (ct.take k) (ps.take k)).length = k := by rw [List.length_zipWith, List.length_take, List.length_take]; omega
  unfold mixP
  have hd : ct.drop k = c :: ct.drop (k + 1) := by
    rw [List.drop_eq_getElem_cons hk]
    congr 1
    have := (List.getElem?_eq_some_iff.1 hc).2
    exact this
  rw [List.set_append_right _ _ (by omega), hl, Nat.sub_self, hd, List.set_cons_zero, List.take_add_one, List.take_add_one, hc, hp]
  rw [List.zipWith_append (by rw [List.length_take, List.length_take]; omega)]
  simp
theorem mixP_same {ct ps : List (Int × Int)} (h : ps.length = ct.length) {k : Nat} {c p : Int × Int} (hc : ct[k]? = some c) (hp : ps[k]? = some p) (hm : mxP c p = c) : mixP ct ps (k + 1) = mixP ct ps k := by
  rw [mixP_next h hc hp, hm]
  have hk := (List.getElem?_eq_some_iff.1 hc).1
  have h1 := mixP_at h hk
  rw [hc] at h1
  obtain ⟨h2, h3⟩ := List.getElem?_eq_some_iff.1 h1
  rw [← h3]
  exact List.set_getElem_self h2
end Go.Proofs.YthmolbcnbcajdaaGreat
namespace Go.Proofs.YthmolbcnbcajdaaGreat
open Go.RowKit
set_option linter.unusedVariables false
set_option maxRecDepth 100000

def cutN (S : Sm) (ps : List (Int × Int)) : Nat := if (ps.length : Int) = lanS S then 0 else 2
set_option maxHeartbeats 1000000 in
theorem scut_no {B b : Nat} {vr vh vc : Value} {S : Sm} (vp : Value) (ps : List (Int × Int)) (w : World) (h : Sq w B b vr vh vc S) (hp : ER E2 w vp ps) (hN : (ps.length : Int) ≠ lanS S) :
    Calls Tryz.prog 49 #[sptr b, vp] w fun e w' => e = .returned (.tuple #[.int .i64 0, Err 2]) ∧ Below w.heap.size w w' := by
  obtain ⟨A, hE, hX, hw⟩ := blk1 w #[sptr b] 41
  obtain ⟨q, cap, rfl⟩ := hp.form
  have hA := h.keep hw
  obtain ⟨qr, cr, er⟩ := hA.re.is.form
  obtain ⟨c0, c1, c2, -⟩ := hA.cells A (Below.refl _ _)
  have x0 : A.cell? ⟨w.heap.size, 0, none⟩ = some (sptr b) := hX.at rfl
  rw [er] at c0
  have hb0 : ((ps.length : Int) != (S.res.length : Int) * S.sh) = true := by unfold lanS at hN; simpa using hN
  go_enter Tryz.func49, Tryz.ntmps49
  go_wp2_with (go_at_call 38; refine (slanes_any qr S.res.length cr S.sh S.hd _ h.ok.r1 h.ok.s0 h.ok.s1).mono ?_; rintro e W2 ⟨rfl, b2⟩)
  go_ret2
  exact ⟨rfl, ab_trans hw b2⟩
theorem scut_nil (vp : Value) (ps : List (Int × Int)) (w : World) (hp : ER E2 w vp ps) : Calls Tryz.prog 49 #[.pointer none, vp] w fun e w' => e = .returned (.tuple #[.int .i64 0, Err 2]) ∧ Below w.heap.size w w' := by
  obtain ⟨q, cap, rfl⟩ := hp.form
  go_enter Tryz.func49, Tryz.ntmps49
  go_wp2_with fail
  go_ret2
  exact ⟨rfl, by repeat (first | exact Below.refl _ _ | refine ab_alloc ?_ _)⟩
/-- A place into a row of them, at one operation. -/
theorem st_rwPW {o : Oper} {a : Act} {w : World} {K : Act → World → Prop} {Q : Exit → Act → World → Prop} (d : Option Tmp) (hd : o.dst = d) {x y : Operand} (ho : o.op = .store 85 x y) {g cap i : Nat} {L : List (Int × Int)} {c : Int × Int} (h : Rw E2 85 w g cap L) (hi : i < L.length) (hx : a.eval x = .pointer (some ⟨g, i * 2, none⟩)) (hy : a.eval y = .agg #[.int .i64 c.1, .int .i64 c.2])
    (hK : ∀ W', Rw E2 85 W' g cap (L.set i c) → Chg g w W' → K (a.put d undef) W') : o.wp Tryz.prog a w K Q := by
  subst hd
  obtain ⟨h1, h2, h3⟩ := h.stored hi c
  exact wp_store_mid 85 x y ho g (i * 2) #[.int .i64 c.1, .int .i64 c.2] hx hy h3 sizePl2 (by simp [Value.oneCell']) (hK _ h1 h2)
end Go.Proofs.YthmolbcnbcajdaaGreat
namespace Go.Proofs.YthmolbcnbcajdaaGreat
open Go.RowKit
set_option linter.unusedVariables false
set_option maxRecDepth 100000

/-- The places of a cut, on the way. -/
structure Cq (w W : World) (B bs b : Nat) (vr vh : Value) (gc cap : Nat) (S : Sm) (ps : List (Int × Int)) (k : Nat) : Prop where
  bx : Blk W bs #[sptr b] 41
  blk : Blk W b (stC S vr vh (.slice (some ⟨gc, 0, none⟩) S.ct.length cap)) 76
  re : Io W B vr S.res
  he : EO E5 30 W B vh S.ho
  ce : Rw E2 85 W gc cap (mixP S.ct ps k)
  fr : Frm (fun r => gc = r) w W
theorem Cq.keep {w W W' : World} {B bs b : Nat} {vr vh : Value} {gc cap : Nat} {S : Sm} {ps : List (Int × Int)} {k : Nat} (h : Cq w W B bs b vr vh gc cap S ps k) (hb : Below W.heap.size W W') : Cq w W' B bs b vr vh gc cap S ps k :=
  ⟨h.bx.keep hb, h.blk.keep hb, h.re.keep hb, h.he.keep hb, h.ce.keep hb, h.fr.trans (frm_below hb)⟩
theorem Cq.set {w W W' : World} {B bs b : Nat} {vr vh : Value} {gc cap : Nat} {S : Sm} {ps : List (Int × Int)} {k k' : Nat} (h : Cq w W B bs b vr vh gc cap S ps k) (hc : Chg gc W W') (hr : Rw E2 85 W' gc cap (mixP S.ct ps k')) : Cq w W' B bs b vr vh gc cap S ps k' := by
  have hk := h.ce.kind
  have h1 : bs ≠ gc := fun e => absurd (h.bx.kindR.uniq (e ▸ hk)) (by decide)
  have h2 : b ≠ gc := fun e => absurd (h.blk.kindR.uniq (e ▸ hk)) (by decide)
  exact ⟨h.bx.chg hc h1, h.blk.chg hc h2, own_chgT h.re hc (fun e => absurd ((own_kindR h.re e).uniq hk) (by decide)), own_chgT h.he hc (fun e => absurd ((own_kindR h.he e).uniq hk) (by decide)), hr, h.fr.trans (frm_chg hc rfl)⟩
set_option maxHeartbeats 4000000 in
theorem scut_ok {B b : Nat} {vr vh vc : Value} {S : Sm} (vp : Value) (ps : List (Int × Int)) (w : World) (h : Sq w B b vr vh vc S) (hp : ER E2 w vp ps) (hx : OutB vp (fun r => vc.ownBlock = some r)) (hN : (ps.length : Int) = lanS S) (hf : ∀ p ∈ ps, J64 p.1 ∧ J64 p.2) :
    Calls Tryz.prog 49 #[sptr b, vp] w fun e w' => e = .returned (.tuple #[.int .i64 ((S.ho.length : Int) - ((cutS S ps).ho.length : Int)), .nilIface]) ∧ ∃ vh', Sq w' B b vr vh' vc (cutS S ps) ∧ Ms b vc w w' vh vh' := by
  have hlan := h.ok.lan
  have hcl := h.ok.cl
  have hps : ps.length = S.ct.length := by omega
  have hOKc := oks_cutC h.ok hps hf
  have hOKd := oks_cut h.ok hps hf
  obtain ⟨gc, cap, rfl⟩ := h.ce.at0 (by omega)
  obtain ⟨A, hE, hX, hw⟩ := blk1 w #[sptr b] 41
  have hA := h.keep hw
  have hpA := hp.keep hw
  obtain ⟨qr, cr, er⟩ := hA.re.is.form
  obtain ⟨c0, c1, c2, -⟩ := hA.cells A (Below.refl _ _)
  have x0 : A.cell? ⟨w.heap.size, 0, none⟩ = some (sptr b) := hX.at rfl
  rw [er] at c0
  obtain ⟨hRc, hBc⟩ := hA.ce.rw
  have hQ0 : Cq w A B w.heap.size b vr vh gc cap S ps 0 := ⟨hX, hA.blk, hA.re, hA.he, by rw [mixP_0]; exact hRc, frm_below hw⟩
  have hb0 : ((ps.length : Int) != (S.res.length : Int) * S.sh) = false := by
    unfold lanS at hN; simpa using hN
  have hcap := hRc.1
  obtain ⟨qp, cp, gp, op, rfl, hpc, hpm, hpp, -⟩ := hp.at
  have HER : ∀ W, Frm (fun r => gc = r) w W → ER E2 W (.slice qp ps.length cp) ps := fun W hf => hp.frm hf (fun a n c e r => hx a n c e (by rw [← r]; rfl))
  generalize hn : ps.length = n at *
  have HPS : Hid (n = S.ct.length) := hps
  have hn12 : n ≤ 12 := by omega
  have hcl1 : 1 ≤ S.ct.length := by omega
  clear hRc hN hps hcl hlan
  go_enter Tryz.func49, Tryz.ntmps49
  go_upto_region 3 with (go_at_call 38; refine (slanes_any qr S.res.length cr S.sh S.hd _ h.ok.r1 h.ok.s0 h.ok.s1).mono ?_; rintro e W2 ⟨rfl, b2⟩)
  have hQ2 := hQ0.keep b2
  clear hQ0 hE c0 c1 c2 x0 hpA hA hX b2 hp
  go_wp2_with fail
  go_loopw [25] (fun x wr => ∃ k : Nat, x = .int .i64 (k : Int) ∧ k ≤ n ∧ Cq w wr B w.heap.size b vr vh gc cap S ps k) (fun x _ => n - (intOf x).toNat)
  case atStart => exact ⟨0, rfl, Nat.zero_le _, hQ2⟩
  case round =>
    clear hQ2
    obtain ⟨k, rfl, hk, hQ⟩ := hrel
    by_cases c : k = n
    · subst c
      have hnc := HPS.out
      have hC : Rw E2 85 wr gc cap (cutC S ps).ct := by
        have := hQ.ce
        rw [hnc, mixP_all (by omega)] at this
        exact this
      have hS : Sq wr B b vr vh (.slice (some ⟨gc, 0, none⟩) S.ct.length cap) (cutC S ps) := by
        have hl : (cutC S ps).ct.length = S.ct.length := by
          show (List.zipWith mxP S.ct ps).length = _
          rw [List.length_zipWith]; omega
        have := hC.eo hBc (i := S.ct.length) (by omega)
        rw [List.take_of_length_le (by omega)] at this
        exact ⟨hQ.blk, h.ge, hQ.re, hQ.he, this, hOKc⟩
      have hCw : Cw wr B w.heap.size b vr vh (.slice (some ⟨gc, 0, none⟩) S.ct.length cap) (cutC S ps) := ⟨hQ.bx, hS.blk, hS.re, hS.ce, hOKc⟩
      have hM : Ms b (.slice (some ⟨gc, 0, none⟩) S.ct.length cap) w wr vh vh := ⟨hQ.fr.mono fun r hr => .inr (.inr (by rw [← hr]; rfl)), fun _ h => .inl h⟩
      have hho := hOKc.len
      have hfi := hOKc.fit
      obtain ⟨qh, ch, eh⟩ := hS.he.form
      have x0 : wr.cell? ⟨w.heap.size, 0, none⟩ = some (sptr b) := hQ.bx.at rfl
      have x9 : wr.cell? ⟨b, 9, none⟩ = some (.slice qh (cutC S ps).ho.length ch) := by rw [← eh]; exact hS.blk.at rfl
      clear hQ hC HER hpp hx
      go_upto_region 11 with fail
      refine region_L 9 (S := fun w' => w'.cell? ⟨w.heap.size, 0, none⟩ = some (sptr b) ∧ w'.cell? ⟨b, 9, none⟩ = some (.slice qh (cutC S ps).ho.length ch)) (by kernel_rfl) ⟨x0, x9⟩ (fun hHeld => ?_)
      have bV : Below wr.heap.size wr wr.drew := ab_drew (Below.refl _ _)
      have hSV := hS.keep bV
      have hCV := hCw.keep bV
      have hMV := hM.trans (ms_below vh bV)
      clear hS hCw hM x0 x9 bV
      generalize wr.drew = V at *
      refine takeL (i := 0) [9] (some 53) (by rfl) rfl rfl (by kernel_rfl) (by kernel_rfl) (by kernel_rfl) (by kernel_rfl) (fun _ _ _ h => h) (by rfl) (fun w hSw => by (try dsimp only at hSw); (obtain ⟨x0, x9⟩ := hSw; go_simp; try rfl)) hHeld ?_
      go_frame
      refine takeL (i := 1) [9] (some 54) (by rfl) rfl rfl (by kernel_rfl) (by kernel_rfl) (by kernel_rfl) (by kernel_rfl) (fun _ _ _ h => h) (by rfl) (fun w hSw => by (try dsimp only at hSw); (obtain ⟨x0, x9⟩ := hSw; go_simp; try rfl)) hHeld ?_
      go_frame
      refine takeP (i := 2) (some 55) (by rfl) rfl rfl (by kernel_rfl) (by kernel_rfl) (by kernel_rfl) (fun _ _ _ h => h) (by rfl) (fun w => by go_simp; try rfl) hHeld ?_
      go_frame
      refine takeP (i := 3) (some 56) (by rfl) rfl rfl (by kernel_rfl) (by kernel_rfl) (by kernel_rfl) (fun _ _ _ h => h) (by rfl) (fun w => by go_simp; try rfl) hHeld ?_
      go_frame
      refine takeL (i := 4) [9] (some 57) (by rfl) rfl rfl (by kernel_rfl) (by kernel_rfl) (by kernel_rfl) (by kernel_rfl) (fun _ _ _ h => h) (by rfl) (fun w hSw => by (try dsimp only at hSw); (obtain ⟨x0, x9⟩ := hSw; go_simp; try rfl)) hHeld ?_
      go_frame
      refine takeP (i := 5) (some 58) (by rfl) rfl rfl (by kernel_rfl) (by kernel_rfl) (by kernel_rfl) (fun _ _ _ h => h) (by rfl) (fun w => by go_simp; try rfl) hHeld ?_
      go_frame
      refine anyL_ready (rs := [6]) (by kernel_rfl) (by simp) (AllL.cons rfl (fun K hK => ?_) AllL.nil)
      go_simp
      have hVe := hSV.he
      rw [eh] at hVe
      refine (sdelete_any (cutC S ps).ho _ V hVe hCV hfi hho).mono ?_
      rintro e6 W6 ⟨v6, rfl, hO6, hf6, hn6⟩
      rw [← eh] at hf6 hn6
      obtain ⟨q6, c6, e66⟩ := hO6.form
      have hap : ¬ vh.ownBlock = some b := blk_own hSV.he hSV.blk (by decide)
      have hB6 : Blk W6 b (stC (cutC S ps) vr vh (.slice (some ⟨gc, 0, none⟩) S.ct.length cap)) 76 := hSV.blk.frm hf6 hap
      have hX6 : Blk W6 w.heap.size #[sptr b] 41 := hCV.bx.frm hf6 (blk_own hSV.he hCV.bx (by decide))
      have hR6 : Io W6 B vr S.res := hSV.re.frm hf6 (fun k hk hi => absurd ((own_kindR hSV.he hk).uniq hi) (by decide))
      have hC6 : EO E2 85 W6 B (.slice (some ⟨gc, 0, none⟩) S.ct.length cap) (cutC S ps).ct := own_at hSV.ce fun g hg => hf6.other g (World.ownsRow.lt hSV.ce g hg).2 (fun hk => sep_ty hSV.he hSV.ce (by decide) g hk hg)
      have m6 : Ms b (.slice (some ⟨gc, 0, none⟩) S.ct.length cap) w W6 vh v6 := hMV.trans ⟨hf6.mono fun k hk => .inr (.inl hk), fun r hr => .inl (hn6 r hr)⟩
      have x0 : W6.cell? ⟨w.heap.size, 0, none⟩ = some (sptr b) := hX6.at rfl
      have x9 : W6.cell? ⟨b, 9, none⟩ = some (.slice qh (cutC S ps).ho.length ch) := by rw [← eh]; exact hB6.at rfl
      have f9 := hB6.frozen 9
      show K _ _
      refine hK.out _ _ ⟨x0, x9⟩ (fun hHeld => ?_)
      clear hK K
      rw [e66]
      have HO6 : Hid (EO E5 30 W6 B v6 (cutS S ps).ho) := hO6
      have HE66 : Hid (v6 = .slice q6 (cutS S ps).ho.length c6) := e66
      have HR6 : Hid (Io W6 B vr S.res) := hR6
      have HC6 : Hid (EO E2 85 W6 B (.slice (some ⟨gc, 0, none⟩) S.ct.length cap) (cutC S ps).ct) := hC6
      rw [show (List.filter (fun o => !cov5 (cutC S ps) o) (cutC S ps).ho).length = (cutS S ps).ho.length from rfl]
      have hle : (cutS S ps).ho.length ≤ S.ho.length := List.length_filter_le _ _
      have hh0 : (cutC S ps).ho.length = S.ho.length := rfl
      rw [hh0]
      rw [hh0] at hho
      clear hO6 e66 hR6 hC6 hf6 hn6 hSV hCV hVe hMV x9
      generalize hN6 : (cutS S ps).ho.length = N6 at *
      have HN6 : Hid ((cutS S ps).ho.length = N6) := hN6
      clear hN6
      try go_frame
      refine takeP (i := 7) (some 60) (by rfl) rfl rfl (by kernel_rfl) (by kernel_rfl) (by kernel_rfl) (fun _ _ _ h => h) (by rfl) (fun w => by go_simp; try rfl) hHeld ?_
      go_frame
      refine takeP (i := 8) (some 61) (by rfl) rfl rfl (by kernel_rfl) (by kernel_rfl) (by kernel_rfl) (fun _ _ _ h => h) (by rfl) (fun w => by go_simp; try rfl) hHeld ?_
      go_frame
      refine anyL_ready (rs := [9]) (by kernel_rfl) (by simp) (AllL.last rfl (by kernel_rfl) (fun K hK => ?_))
      obtain ⟨-, y9⟩ := hHeld
      go_simp
      refine hK.out _ _ ?_
      clear hK K
      refine anyL_done (by kernel_rfl) ?_
      have hB7 : Blk (W6.setCell ⟨b, 9, none⟩ (.slice q6 N6 c6)) b (stC (cutC S ps) vr (.slice q6 N6 c6) (.slice (some ⟨gc, 0, none⟩) S.ct.length cap)) 76 := hB6.set 9 (.slice q6 N6 c6)
      have k7 := chg_set W6 b 9 (.slice q6 N6 c6)
      have m7 := m6.trans (ms_set (b := b) (vc := (.slice (some ⟨gc, 0, none⟩) S.ct.length cap)) W6 v6 9 (.slice q6 N6 c6))
      have hX7 := hX6.chg k7 (blk_ne hX6 hB6 (by decide))
      have g9 : (W6.setCell ⟨b, 9, none⟩ (.slice q6 N6 c6)).cell? ⟨b, 9, none⟩ = some (.slice q6 N6 c6) := hB7.at rfl
      have g0 : (W6.setCell ⟨b, 9, none⟩ (.slice q6 N6 c6)).cell? ⟨w.heap.size, 0, none⟩ = some (sptr b) := hX7.at rfl
      clear y9 f9 x0 hX6 hX7
      generalize W6.setCell ⟨b, 9, none⟩ (.slice q6 N6 c6) = W7 at *
      go_wp2_with fail
      go_ret2
      have hap6 : v6.ownBlock ≠ some b := blk_own HO6.out hB6 (by decide)
      have hapc : (Value.slice (some ⟨gc, 0, none⟩) S.ct.length cap).ownBlock ≠ some b := blk_own HC6.out hB6 (by decide)
      have hapr : vr.ownBlock ≠ some b := blk_own HR6.out hB6 (by decide)
      rw [← HE66.out] at hB7
      exact ⟨by rw [HN6.out]; rfl, v6, ⟨hB7, h.ge, own_chgT HR6.out k7 hapr, own_chgT HO6.out k7 hap6, own_chgT HC6.out k7 hapc, hOKd⟩, m7⟩
    · obtain ⟨p, hpk⟩ : ∃ p, ps[k]? = some p := ⟨ps[k], List.getElem?_eq_getElem (by omega)⟩
      obtain ⟨ct, hck⟩ : ∃ ct, S.ct[k]? = some ct := ⟨S.ct[k]'(by have := HPS.out; omega), List.getElem?_eq_getElem _⟩
      have hki : (k : Int) < (n : Int) := by omega
      have hpl : ps.length = S.ct.length := by rw [hn]; exact HPS.out
      obtain ⟨q2, cp2, g2, o2, e2, -, -, hp2, hr2⟩ := (HER wr hQ.fr).at
      rw [hn] at e2
      cases e2
      obtain ⟨rfl, hg2⟩ := hp2 (by omega)
      have z0 : wr.cell? ⟨g2, o2 + k * 2, none⟩ = some (.int .i64 p.1) := hr2 k p hpk 0 _ rfl
      have z1 : wr.cell? ⟨g2, o2 + k * 2 + 1, none⟩ = some (.int .i64 p.2) := hr2 k p hpk 1 _ rfl
      obtain ⟨A1, hE1, hX1, hw1⟩ := blk1 wr #[.int .i64 p.1, .int .i64 p.2] 85
      have hQ1 := hQ.keep hw1
      have hmk : (mixP S.ct ps k)[k]? = some ct := by rw [mixP_at hpl (by omega)]; exact hck
      have hcap2 := hQ1.ce.1
      rw [mixP_len hpl (by omega)] at hcap2
      have y0 : ∀ y : Cls A1, y.val.cell? ⟨w.heap.size, 0, none⟩ = some (sptr b) := fun y => (hQ1.bx.keep y.prop).at rfl
      have y1 : ∀ y : Cls A1, y.val.cell? ⟨b, 10, none⟩ = some (.slice (some ⟨gc, 0, none⟩) S.ct.length cap) := fun y => (hQ1.blk.keep y.prop).at rfl
      have y2 : ∀ y : Cls A1, y.val.cell? ⟨gc, k * 2, none⟩ = some (.int .i64 ct.1) := fun y => (hQ1.ce.keep y.prop).cell (i := 0) hmk rfl
      have y3 : ∀ y : Cls A1, y.val.cell? ⟨gc, k * 2 + 1, none⟩ = some (.int .i64 ct.2) := fun y => (hQ1.ce.keep y.prop).cell (i := 1) hmk rfl
      have y4 : ∀ y : Cls A1, y.val.cell? ⟨wr.heap.size, 0, none⟩ = some (.int .i64 p.1) := fun y => (hX1.keep y.prop).at rfl
      have y5 : ∀ y : Cls A1, y.val.cell? ⟨wr.heap.size, 1, none⟩ = some (.int .i64 p.2) := fun y => (hX1.keep y.prop).at rfl
      have hkc : (k : Int) < (S.ct.length : Int) := by have := HPS.out; omega
      have hkc' : k < S.ct.length := by omega
      go_upto_region 6 with fail
      have HZ := cls_some A1
      refine wp_region_below (by kernel_rfl) (by kernel_rfl) ?_
      repeat (go_big_quiet_step (first | (go_at_call 70; exact calls_below (pless_any _ _ _ _ _))))
      refine wpQuiet_nil ?_
      rintro _ ⟨y, rfl⟩
      have hQV := hQ1.keep y.prop
      have r0 : ∀ W, Below y.val.heap.size y.val W → W.cell? ⟨w.heap.size, 0, none⟩ = some (sptr b) := fun W hb => (hQV.bx.keep hb).at rfl
      have r1 : ∀ W, Below y.val.heap.size y.val W → W.cell? ⟨b, 10, none⟩ = some (.slice (some ⟨gc, 0, none⟩) S.ct.length cap) := fun W hb => (hQV.blk.keep hb).at rfl
      have r4 : ∀ W, Below y.val.heap.size y.val W → W.cell? ⟨wr.heap.size, 0, none⟩ = some (.int .i64 p.1) := fun W hb => ((hX1.keep y.prop).keep hb).at rfl
      have r5 : ∀ W, Below y.val.heap.size y.val W → W.cell? ⟨wr.heap.size, 1, none⟩ = some (.int .i64 p.2) := fun W hb => ((hX1.keep y.prop).keep hb).at rfl
      clear y0 y1 y2 y3 y4 y5 HZ hQ1 hQ hX1 hw1 hE1 z0 z1 hr2 hp2 HER hpp hx
      generalize y.val = V at *
      cases hpl2 : pl ct.1 ct.2 p.1 p.2
      · have hmx : mxP ct p = ct := by unfold mxP; rw [hpl2]; rfl
        have hQn : Cq w V B w.heap.size b vr vh gc cap S ps (k + 1) := by
          refine ⟨hQV.bx, hQV.blk, hQV.re, hQV.he, ?_, hQV.fr⟩
          rw [mixP_same hpl hck hpk hmx]
          exact hQV.ce
        go_wp2_with fail
        exact ⟨⟨k + 1, by go_num, by omega, hQn⟩, by simp [intOf]; omega⟩
      · have hmx : mxP ct p = p := by unfold mxP; rw [hpl2]; rfl
        go_upto_region 7 with fail
        refine region_L 7 (S := fun w' => Below V.heap.size V w') (by kernel_rfl) ((Below.refl _ _).drew) (fun hHeld => ?_)
        have hQd := hQV.keep hHeld
        refine takeL (i := 0) [7] (some 39) (by rfl) rfl rfl (by kernel_rfl) (by kernel_rfl) (by kernel_rfl) (by kernel_rfl) (fun _ _ _ h => h) (by rfl) (fun w hSw => by (try dsimp only at hSw); (have x0 := r0 _ hSw; go_simp; try rfl)) hHeld ?_
        go_frame
        refine takeP (i := 1) (some 40) (by rfl) rfl rfl (by kernel_rfl) (by kernel_rfl) (by kernel_rfl) (fun _ _ _ h => h) (by rfl) (fun w => by go_simp; try rfl) hHeld ?_
        go_frame
        refine takeP (i := 2) (some 41) (by rfl) rfl rfl (by kernel_rfl) (by kernel_rfl) (by kernel_rfl) (fun _ _ _ h => h) (by rfl) (fun w => by go_simp; try rfl) hHeld ?_
        go_frame
        refine takeL (i := 3) [7] (some 42) (by rfl) rfl rfl (by kernel_rfl) (by kernel_rfl) (by kernel_rfl) (by kernel_rfl) (fun _ _ _ h => h) (by rfl) (fun w hSw => by (try dsimp only at hSw); (have x0 := r1 _ hSw; go_simp; try rfl)) hHeld ?_
        go_frame
        refine takeP (i := 4) (some 43) (by rfl) rfl rfl (by kernel_rfl) (by kernel_rfl) (by kernel_rfl) (fun _ _ _ h => h) (by rfl) (fun w => by go_simp; try rfl) hHeld ?_
        go_frame
        refine takeL (i := 5) [7] (some 44) (by rfl) rfl rfl (by kernel_rfl) (by kernel_rfl) (by kernel_rfl) (by kernel_rfl) (fun _ _ _ h => h) (by rfl) (fun w hSw => by (try dsimp only at hSw); (have x0 := r4 _ hSw; have x1 := r5 _ hSw; go_simp; try rfl)) hHeld ?_
        go_frame
        refine takeP (i := 6) (some 45) (by rfl) rfl rfl (by kernel_rfl) (by kernel_rfl) (by kernel_rfl) (fun _ _ _ h => h) (by rfl) (fun w => by go_simp; try rfl) hHeld ?_
        go_frame
        refine anyL_ready (rs := [7]) (by kernel_rfl) (by simp) (AllL.last rfl (by kernel_rfl) (fun K hK => ?_))
        rw [if_pos (by rfl)]
        refine st_rwPW none rfl rfl (c := p) hQd.ce (by rw [mixP_len hpl (by omega)]; exact hkc') rfl rfl ?_
        intro W3 hR3 C3
        rw [← hmx, ← mixP_next hpl hck hpk] at hR3
        have hQn := hQd.set C3 hR3
        refine hK.out _ _ ?_
        clear hK K
        refine anyL_done (by kernel_rfl) ?_
        go_wp2_with fail
        exact ⟨⟨k + 1, by go_num, by omega, hQn⟩, by simp [intOf]; omega⟩
end Go.Proofs.YthmolbcnbcajdaaGreat
