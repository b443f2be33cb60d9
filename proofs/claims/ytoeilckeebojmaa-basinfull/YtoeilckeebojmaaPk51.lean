/-
  What the laws on basins ask ahead: long, fed.
-/
import Derived.Test.YtoeilckeebojmaaPk50
import Derived.Test.YtoeilckeebojmaaPk44
import Derived.Test.YtoeilckeebojmaaPk48
namespace Go.Proofs.Ytoeilckeebojmaa
open Go.RowKit Go.Maps
set_option linter.unusedVariables false
set_option maxRecDepth 100000

/-- A call's cells. -/
def seA (x : SeD) : Array Value := #[.int .i64 x.kd, .int .i64 x.sr, .bool x.nx, .int .i64 x.fr, .int .i64 x.la, x.vc, x.vo, .int .i64 x.p.1, .int .i64 x.p.2]
/-- Some answer. -/
def BoolE (e : Ending) : Prop := ∃ b : Bool, e = .returned (.bool b)
theorem boolE (b : Bool) : BoolE (.returned (.bool b)) := ⟨b, rfl⟩
set_option maxHeartbeats 2000000 in
theorem long16_any (x : CeD) (w : World) (h : CeZ w x) : Calls Try.prog 17 #[.agg (ceA x)] w fun e w' => BoolE e ∧ Below w.heap.size w w' := by
  obtain ⟨A, hE, hX, hw⟩ := blk1 w (ceA x) 62
  have hr := h.row.keep hw
  have y1 : A.cell? ⟨w.heap.size, 1, none⟩ = some (.slice x.qr x.nr x.cr) := hX.at rfl
  have y4 : A.cell? ⟨w.heap.size, 4, none⟩ = some (.slice x.q x.n x.cap) := hX.at rfl
  have hrl := h.re.len
  clear h hX
  unfold ceA at hE ⊢
  obtain ⟨sr, qr, nr, cr, res, sh, mo, q, n, cap, g, off, os⟩ := x
  try dsimp only at *
  have hnm : n ≤ 9223372036854775807 := Nat.le_trans hr.fits hr.max
  go_enter Try.func17, Try.ntmps17
  go_wp2_with fail
  clear hE
  go_loopw [3, 12] (fun s z wr => ∃ (k : Nat) (a : Int), k ≤ n ∧ z = .int .i64 (k : Int) ∧ s = .int .i64 a ∧ Below A.heap.size A wr) (fun _ z _ => n - (intOf z).toNat)
  case atStart => exact ⟨0, _, by omega, rfl, rfl, Below.refl _ _⟩
  case round =>
    obtain ⟨k, a, hk, rfl, rfl, hwr⟩ := hrel
    by_cases c : k = n
    · subst c
      go_wp2_with fail
      go_ret
      exact ⟨boolE _, ab_trans hw hwr⟩
    · obtain ⟨y, hy⟩ : ∃ y, os[k]? = some y := ⟨os[k]'(by have := hr.len; omega), List.getElem?_eq_getElem (by have := hr.len; omega)⟩
      have hki : (k : Int) < (n : Int) := by omega
      obtain rfl := hr.ptr (by omega)
      have hy2 := (hr.row k y hy).keep (hr.lt (by omega)) hwr
      obtain ⟨qc, cc, ec⟩ := hy2.sc.form
      obtain ⟨qo, co, eo⟩ := hy2.so.form
      have z0 := hy2.c0
      have z1 := hy2.c1
      have z2 := hy2.c2
      have z3 := hy2.c3
      have z4 := hy2.c4
      have z5 := hy2.c5
      have z6 := hy2.c6
      have z7 := hy2.c7
      have z8 := hy2.c8
      rw [ec] at z5
      rw [eo] at z6
      obtain ⟨A2, hE2, hX2, hw2⟩ := blk1 wr #[.int .i64 y.kd, .int .i64 y.sr, .bool y.nx, .int .i64 y.fr, .int .i64 y.la, .slice qc y.cu.length cc, .slice qo y.ops.length co, .int .i64 y.p.1, .int .i64 y.p.2] 64
      have g5 : A2.cell? ⟨wr.heap.size, 5, none⟩ = some (.slice qc y.cu.length cc) := hX2.at rfl
      have g6 : A2.cell? ⟨wr.heap.size, 6, none⟩ = some (.slice qo y.ops.length co) := hX2.at rfl
      have hA2 := ab_trans hwr hw2
      clear hy2 hy hX2 ec eo
      generalize y.cu.length = nc at *
      generalize y.ops.length = no at *
      go_wp2_with fail
      go_roundw
      case rel => exact ⟨k + 1, _, by omega, by go_num, rfl, hA2⟩
      case measure => simp [intOf]; omega
theorem i64_wrap16 (x : Int) : IntKind.i64.wrap x = wrap64 x := Go.IntWalk.i64_left x
/-- The numbers of a call, with the next one in From's place. -/
def feF (x : SeD) (nx : Int) : Int := if x.nx = true then nx else x.fr
def feL (x : SeD) (nx : Int) : Int := if x.nx = true then wrap64 (wrap64 (x.la + nx) - 1) else x.la
def shO (d : Int) (o : Op5) : Op5 := { o with s := wrap64 (o.s + d) }
def feO (x : SeD) (nx : Int) : List Op5 := if x.nx = true then x.ops.map (shO (wrap64 (nx - 1))) else x.ops
/-- What fed answers. -/
def FedE (K : Bkk) (e : Ending) (w' : World) (x : SeD) (nx : Int) : Prop := ∃ q c, e = .returned (.tuple #[.int .i64 (feF x nx), .int .i64 (feL x nx), .slice q (feO x nx).length c]) ∧ Stay E5 K w' (.slice q (feO x nx).length c) (feO x nx)
theorem feO_fit {x : SeD} (h : SeF x) (nx : Int) : ∀ o ∈ feO x nx, Fit5 o := by
  intro o ho
  unfold feO at ho
  split at ho
  · obtain ⟨y, hy, rfl⟩ := List.mem_map.1 ho
    have := h.ops y hy
    exact ⟨by show J64 (wrap64 _); unfold J64 wrap64; omega, this.k, this.t, this.y, this.v⟩
  · exact h.ops o ho
theorem app_eL {P : Program} {α : Type} {E : En α} {ops : Array Oper} {rest : List Oper} {o : Oper} {a : Act} {w : World} {Q : Exit → Act → World → Prop} (A : World) (hw : Region.wanted o (yielded ops a.tmps) = true) {s x : Operand} {t e : TypeId} {bytes : Nat} {z : Value} (ho : o.op = .call { callee := .builtin .append, args := #[s, x], argTypes := #[t, t] })
    (ht : P.underlying t = some (.slice e)) (hinf : (P.info? e).map (fun i => (i.zero, i.size, i.bytes)) = some (some z, E.k, bytes)) (hz : z.cells.size = E.k)
    {v vx : Value} {l m : List α} (hs : a.eval s = v) (hown : EO E e w A.heap.size v l) (hx : a.eval x = vx) (hsl : ER E w vx m) (h63 : l.length + m.length ≤ 4000000000000) (hbytes : (l.length + m.length) * bytes ≤ 140737488355328) (hA : Below A.heap.size A w)
    (h : ∀ v' w', EO E e w' A.heap.size v' (l ++ m) → Below A.heap.size A w' → w.grownBy w' v.ownBlock → wpList P ops Q rest (a.put o.dst v') w') : wpList P ops Q (o :: rest) a w := by
  obtain ⟨q, cap, rfl, hq, hsrc⟩ := hsl.src
  refine app_ownG A hw ho ht hinf hz E.pos hs hown (E.fl m) hx hq (E.fl_len m) hsrc (E.fl_cell m) (by unfold maxLen; omega) hbytes hA fun v' w' h1 h2 h3 h4 => ?_
  rw [← E.fl_append] at h1
  exact h v' w' (eo_of h1) h3 h4
theorem shO_take {l : List Op5} {k : Nat} {o : Op5} {d : Int} (h : l[k]? = some o) : ((l.take k).map (shO d) ++ l.drop k).set k (shO d o) = (l.take (k + 1)).map (shO d) ++ l.drop (k + 1) := by
  obtain ⟨hk, he⟩ := List.getElem?_eq_some_iff.1 h
  have h1 : ((l.take k).map (shO d)).length = k := by rw [List.length_map, List.length_take]; omega
  rw [List.set_append_right _ _ (by omega), h1, Nat.sub_self, List.drop_eq_getElem_cons hk, List.set_cons_zero, List.take_add_one, h]
  simp
theorem shO_at {l : List Op5} {k : Nat} {o : Op5} {d : Int} (h : l[k]? = some o) : ((l.take k).map (shO d) ++ l.drop k)[k]? = some o := by
  obtain ⟨hk, he⟩ := List.getElem?_eq_some_iff.1 h
  have h1 : ((l.take k).map (shO d)).length = k := by rw [List.length_map, List.length_take]; omega
  rw [List.getElem?_append_right (by omega), h1, Nat.sub_self, List.getElem?_drop, Nat.add_zero, h]
set_option maxHeartbeats 4000000 in
theorem fed16_any {K : Bkk} (x : SeD) (nx : Int) (w : World) (hs : Stay E5 K w x.vo x.ops) (hf : SeF x) (hl : x.ops.length ≤ 3518437208881) (hK : ∀ k, bkB K k → k < w.heap.size) :
    Calls Try.prog 19 #[.agg (seA x), .int .i64 nx] w fun e w' => FedE K e w' x nx ∧ Below w.heap.size w w' := by
  obtain ⟨qo, co, eo⟩ := hs.er.form
  obtain ⟨A, hE, hX, hw⟩ := blk1 w (seA x) 64
  have hX2 : Blk A w.heap.size #[.int .i64 x.kd, .int .i64 x.sr, .bool x.nx, .int .i64 x.fr, .int .i64 x.la, x.vc, .slice qo x.ops.length co, .int .i64 x.p.1, .int .i64 x.p.2] 64 := by
    have := hX
    unfold seA at this
    rw [eo] at this
    exact this
  rw [eo] at hs
  have hsA : Stay E5 K A (.slice qo x.ops.length co) x.ops := hs.frm (frm_below hw)
  have y2 : A.cell? ⟨w.heap.size, 2, none⟩ = some (.bool x.nx) := hX2.at rfl
  have HC : Hid (∀ V, Below A.heap.size A V → V.cell? ⟨w.heap.size, 3, none⟩ = some (.int .i64 x.fr) ∧ V.cell? ⟨w.heap.size, 4, none⟩ = some (.int .i64 x.la) ∧ V.cell? ⟨w.heap.size, 6, none⟩ = some (.slice qo x.ops.length co)) := fun V hb => ⟨(hX2.keep hb).at rfl, (hX2.keep hb).at rfl, (hX2.keep hb).at rfl⟩
  cases hnx : x.nx
  · have HA : Hid (feF x nx = x.fr ∧ feL x nx = x.la ∧ feO x nx = x.ops) := by
      refine ⟨?_, ?_, ?_⟩
      · unfold feF; rw [hnx]; rfl
      · unfold feL; rw [hnx]; rfl
      · unfold feO; rw [hnx]; rfl
    have HS : Hid (Stay E5 K A (.slice qo x.ops.length co) x.ops) := hsA
    rw [hnx] at y2
    unfold seA at hE ⊢
    rw [eo] at hE ⊢
    rw [hnx] at hE ⊢
    clear hs hsA hX hX2 hl eo
    generalize hno : x.ops.length = no at *
    go_enter Try.func19, Try.ntmps19
    go_upto_region 2 with fail
    clear hE
    refine wp_region_held_drew (S := fun w' => Below A.heap.size A w') (by kernel_rfl) (ab_drew (Below.refl _ _)) (fun hHeld => ?_)
    refine takeH (i := 0) (some 12) rfl rfl (by kernel_rfl) (by kernel_rfl) (by kernel_rfl) (fun _ _ _ h => h) (by rfl) (fun w hSw => by (try dsimp only at hSw); go_simp; try rfl) hHeld ?_
    go_frame
    refine takeH (i := 1) (some 13) rfl rfl (by kernel_rfl) (by kernel_rfl) (by kernel_rfl) (fun _ _ _ h => h) (by rfl) (fun w hSw => by (try dsimp only at hSw); (obtain ⟨q3, q4, q6⟩ := HC.out _ hSw; go_simp; try rfl)) hHeld ?_
    go_frame
    refine takeH (i := 2) (some 14) rfl rfl (by kernel_rfl) (by kernel_rfl) (by kernel_rfl) (fun _ _ _ h => h) (by rfl) (fun w hSw => by (try dsimp only at hSw); go_simp; try rfl) hHeld ?_
    go_frame
    refine takeH (i := 3) (some 15) rfl rfl (by kernel_rfl) (by kernel_rfl) (by kernel_rfl) (fun _ _ _ h => h) (by rfl) (fun w hSw => by (try dsimp only at hSw); (obtain ⟨q3, q4, q6⟩ := HC.out _ hSw; go_simp; try rfl)) hHeld ?_
    go_frame
    refine takeH (i := 4) (some 16) rfl rfl (by kernel_rfl) (by kernel_rfl) (by kernel_rfl) (fun _ _ _ h => h) (by rfl) (fun w hSw => by (try dsimp only at hSw); go_simp; try rfl) hHeld ?_
    go_frame
    refine takeH (i := 5) (some 17) rfl rfl (by kernel_rfl) (by kernel_rfl) (by kernel_rfl) (fun _ _ _ h => h) (by rfl) (fun w hSw => by (try dsimp only at hSw); (obtain ⟨q3, q4, q6⟩ := HC.out _ hSw; go_simp; try rfl)) hHeld ?_
    go_frame
    refine takeH (i := 6) (some 4) rfl rfl (by kernel_rfl) (by kernel_rfl) (by kernel_rfl) (fun _ _ _ h => h) (by rfl) (fun w hSw => by (try dsimp only at hSw); go_simp; try rfl) hHeld ?_
    go_frame
    refine takeH (i := 7) (some 5) rfl rfl (by kernel_rfl) (by kernel_rfl) (by kernel_rfl) (fun _ _ _ h => h) (by rfl) (fun w hSw => by (try dsimp only at hSw); go_simp; try rfl) hHeld ?_
    go_frame
    refine takeH (i := 8) (some 6) rfl rfl (by kernel_rfl) (by kernel_rfl) (by kernel_rfl) (fun _ _ _ h => h) (by rfl) (fun w hSw => by (try dsimp only at hSw); go_simp; try rfl) hHeld ?_
    go_frame
    refine wpAnyH_done (by kernel_rfl) ?_ _
    go_wp2_with fail
    go_ret3
    obtain ⟨a1, a2, a3⟩ := HA.out
    refine ⟨⟨qo, co, ?_, ?_⟩, ab_trans hw hHeld⟩
    · rw [a1, a2, a3, hno]; rfl
    · rw [a3, hno]
      exact HS.out.frm (frm_below hHeld)
  · have HA : Hid (feF x nx = nx ∧ feL x nx = wrap64 (wrap64 (x.la + nx) - 1) ∧ feO x nx = x.ops.map (shO (wrap64 (nx - 1)))) := by
      refine ⟨?_, ?_, ?_⟩
      · unfold feF; rw [hnx]; rfl
      · unfold feL; rw [hnx]; rfl
      · unfold feO; rw [hnx]; rfl
    have hER := hsA.er
    rw [hnx] at y2
    obtain ⟨-, -, x6⟩ := HC.out A (Below.refl _ _)
    unfold seA at hE ⊢
    rw [eo] at hE ⊢
    rw [hnx] at hE ⊢
    have hKA : Hid (∀ k, bkB K k → k < A.heap.size) := fun k hk => Nat.lt_of_lt_of_le (hK k hk) hw.size
    clear hs hsA hX hX2 eo
    generalize hno : x.ops.length = no at *
    obtain ⟨A2, hE2, hX2, hw2⟩ := blk1 A #[] 27
    have hO2 : EO E5 27 A2 A.heap.size (.slice (some ⟨A.heap.size, 0, none⟩) 0 0) [] := eo_of (n := 0) (own_blkE (xs := []) hX2 (Nat.le_refl _) rfl (by omega))
    have hER2 := hER.keep hw2
    obtain ⟨-, -, x6'⟩ := HC.out A2 hw2
    go_enter Try.func19, Try.ntmps19
    go_wp2_with (at_builtin; refine app_eL (E := E5) A rfl rfl Try.underlying22 infoOp5 rfl rfl hO2 rfl hER2 (by rw [hno]; show 0 + no ≤ _; omega) (by rw [hno]; show (0 + no) * 40 ≤ _; omega) hw2 ?_; intro v3 W3 hO3 hw3 hg3; obtain ⟨q3, c3, e3⟩ := hO3.form; rw [List.nil_append] at hO3 e3; rw [hno] at e3; subst e3; clear hg3; go_frame)
    clear hE hE2 hX2 hO2 hER2 hER x6 x6' y2
    obtain ⟨d, hd⟩ : ∃ d, d = wrap64 (nx - 1) := ⟨_, rfl⟩
    rw [← hd] at HA
    go_loopw [24] (fun z wr => ∃ k : Nat, k ≤ no ∧ z = .int .i64 (k : Int) ∧ EO E5 27 wr A.heap.size (.slice q3 no c3) ((x.ops.take k).map (shO d) ++ x.ops.drop k) ∧ Below A.heap.size A wr) (fun z _ => no - (intOf z).toNat)
    case atStart => exact ⟨0, by omega, rfl, by simpa using hO3, hw3⟩
    case round =>
      obtain ⟨k, hk, rfl, hOk, hwr⟩ := hrel
      clear hO3 hw3 hw2
      by_cases c : k = no
      · subst c
        rw [List.drop_of_length_le (by omega), List.take_of_length_le (by omega), List.append_nil] at hOk
        have HO : Hid (EO E5 27 wr A.heap.size (.slice q3 k c3) (x.ops.map (shO d))) := hOk
        clear hOk
        go_upto_region 9 with fail
        refine wp_region_held_drew (S := fun w' => Below wr.heap.size wr w') (by kernel_rfl) (ab_drew (Below.refl _ _)) (fun hHeld => ?_)
        refine takeH (i := 0) (some 38) rfl rfl (by kernel_rfl) (by kernel_rfl) (by kernel_rfl) (fun _ _ _ h => h) (by rfl) (fun w hSw => by (try dsimp only at hSw); go_simp; try rfl) hHeld ?_
        go_frame
        refine takeH (i := 1) (some 39) rfl rfl (by kernel_rfl) (by kernel_rfl) (by kernel_rfl) (fun _ _ _ h => h) (by rfl) (fun w hSw => by (try dsimp only at hSw); go_simp; try rfl) hHeld ?_
        go_frame
        refine takeH (i := 2) (some 40) rfl rfl (by kernel_rfl) (by kernel_rfl) (by kernel_rfl) (fun _ _ _ h => h) (by rfl) (fun w hSw => by (try dsimp only at hSw); (obtain ⟨r3, r4, r6⟩ := HC.out _ (ab_trans hwr hSw); go_simp; try rfl)) hHeld ?_
        go_frame
        refine takeH (i := 3) (some 41) rfl rfl (by kernel_rfl) (by kernel_rfl) (by kernel_rfl) (fun _ _ _ h => h) (by rfl) (fun w hSw => by (try dsimp only at hSw); go_simp; try rfl) hHeld ?_
        go_frame
        refine takeH (i := 4) (some 42) rfl rfl (by kernel_rfl) (by kernel_rfl) (by kernel_rfl) (fun _ _ _ h => h) (by rfl) (fun w hSw => by (try dsimp only at hSw); go_simp; try rfl) hHeld ?_
        go_frame
        refine takeH (i := 5) (some 43) rfl rfl (by kernel_rfl) (by kernel_rfl) (by kernel_rfl) (fun _ _ _ h => h) (by rfl) (fun w hSw => by (try dsimp only at hSw); go_simp; try rfl) hHeld ?_
        go_frame
        refine takeH (i := 6) (some 44) rfl rfl (by kernel_rfl) (by kernel_rfl) (by kernel_rfl) (fun _ _ _ h => h) (by rfl) (fun w hSw => by (try dsimp only at hSw); go_simp; try rfl) hHeld ?_
        go_frame
        refine takeH (i := 7) (some 4) rfl rfl (by kernel_rfl) (by kernel_rfl) (by kernel_rfl) (fun _ _ _ h => h) (by rfl) (fun w hSw => by (try dsimp only at hSw); go_simp; try rfl) hHeld ?_
        go_frame
        refine takeH (i := 8) (some 5) rfl rfl (by kernel_rfl) (by kernel_rfl) (by kernel_rfl) (fun _ _ _ h => h) (by rfl) (fun w hSw => by (try dsimp only at hSw); go_simp; try rfl) hHeld ?_
        go_frame
        refine takeH (i := 9) (some 6) rfl rfl (by kernel_rfl) (by kernel_rfl) (by kernel_rfl) (fun _ _ _ h => h) (by rfl) (fun w hSw => by (try dsimp only at hSw); go_simp; try rfl) hHeld ?_
        go_frame
        refine wpAnyH_done (by kernel_rfl) ?_ _
        go_wp2_with fail
        go_ret3
        obtain ⟨a1, a2, a3⟩ := HA.out
        have hOf : EO E5 27 _ A.heap.size (.slice q3 k c3) (x.ops.map (shO d)) := HO.out.keep hHeld
        have hkl : (x.ops.map (shO d)).length = k := by rw [List.length_map]; exact hno
        refine ⟨⟨q3, c3, ?_, ?_⟩, ab_trans hw (ab_trans hwr hHeld)⟩
        · rw [a1, a2, a3, hkl]; simp only [i64_wrap16]; rfl
        · rw [a3, hkl]
          exact stay_out hOf.er (fun a n' c' e hk => by have h9 := (World.ownsRow.lt hOf a.block (by rw [e]; rfl)).1; have := hKA.out _ hk; omega)
      · obtain ⟨o, ho⟩ : ∃ o, x.ops[k]? = some o := ⟨x.ops[k]'(by omega), List.getElem?_eq_getElem (by omega)⟩
        have hki : (k : Int) < (no : Int) := by omega
        have hkn : k < no := by omega
        obtain ⟨q, cq, eq⟩ : ∃ g cq, (Value.slice q3 no c3) = .slice (some ⟨g, 0, none⟩) no cq := by
          rcases hOk.2 with ⟨h9, h8⟩ | ⟨g, cap, cur, h9, -⟩
          · exfalso
            rw [List.length_append, List.length_map, List.length_take, List.length_drop] at h8
            omega
          · cases h9; exact ⟨_, _, rfl⟩
        cases eq
        obtain ⟨hR, hq⟩ := hOk.rw
        have z0 : wr.cell? ⟨q, k * 5, none⟩ = some (.int .i64 o.s) := hR.cell (i := 0) (shO_at ho) rfl
        have f0 := hR.chgc (k * 5)
        have HR : Hid (Rw E5 27 (wr.setCell ⟨q, k * 5, none⟩ (.int .i64 (wrap64 (o.s + d)))) q c3 ((x.ops.take (k + 1)).map (shO d) ++ x.ops.drop (k + 1))) := by
          have := hR.setc (j := 0) (c' := shO d o) (v := .int .i64 (wrap64 (o.s + d))) (shO_at ho) (by show 0 < 5; omega) rfl
          rw [shO_take ho] at this
          exact this
        have HCg : Hid (Chg q wr (wr.setCell ⟨q, k * 5, none⟩ (.int .i64 (wrap64 (o.s + d))))) := chg_set _ _ _ _
        clear hR hOk ho
        rw [hd] at HR HCg
        go_wp2_with fail
        go_roundw
        case rel =>
          have hlL : ((x.ops.take (k + 1)).map (shO (wrap64 (nx - 1))) ++ x.ops.drop (k + 1)).length = no := by rw [List.length_append, List.length_map, List.length_take, List.length_drop]; omega
          have h8 := HR.out.eo hq (i := no) (by rw [hlL]; exact Nat.le_refl _)
          rw [List.take_of_length_le (by rw [hlL]; exact Nat.le_refl _)] at h8
          exact ⟨k + 1, by omega, by go_num, by rw [hd]; exact h8, ab_chg hwr HCg.out hq⟩
        case measure => simp [intOf]; omega
end Go.Proofs.Ytoeilckeebojmaa
