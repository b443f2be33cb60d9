/-
  slices.IndexFunc and slices.DeleteFunc of names at basin's past.
-/
import Derived.Test.YtoeilckeebojmaaPk37
import Derived.Test.YtoeilckeebojmaaPk25
namespace Go.Proofs.Ytoeilckeebojmaa
open Go.RowKit Go.Maps
set_option linter.unusedVariables false
set_option maxRecDepth 100000

def E3k : En Kyy := ⟨3, fun p => [.int .i64 p.1, .int .i64 p.2.1, .int .i64 p.2.2], fun _ => rfl, fun x u hu => by simp at hu; rcases hu with rfl | rfl | rfl <;> rfl, by omega⟩
theorem e3k_flat (l : List Kyy) : E3k.fl l = flat3 l := rfl
def zKy : Kyy := (0, 0, 0)
theorem zeroId (w : World) : (zeroValue 47).run Try.prog w = .ok (.agg #[.int .i64 0, .int .i64 0, .int .i64 0]) w := by kernel_rfl
theorem eltId : Try.prog.underlying 44 = some (.slice (Try.prog.elem 44)) := by kernel_rfl
theorem sizeId (w : World) : (sizeOf (Try.prog.elem 44)).run Try.prog w = .ok 3 w := by kernel_rfl
theorem info_id3 : (Try.prog.info? 47).map (·.size) = some 3 := by kernel_rfl
/-- A name of one of the lanes. -/
def LaK (S : Bsn) (k : Kyy) : Prop := 0 ≤ k.1 ∧ k.1 < (S.ba.length : Int)
/-- A row of names turns. -/
theorem Pw.chgK {W W' : World} {K : Bkk} {S : Bsn} {g : Nat} (h : Pw W K S) (hc : Chg g W W') (hk : kindR W g 47) : Pw W' K S := by
  have h1 : K.b ≠ g := fun e => absurd (h.blk.kindR.uniq (e ▸ hk)) (by decide)
  have h2 : K.gb ≠ g := fun e => absurd ((rw_kind h.be).uniq (e ▸ hk)) (by decide)
  exact ⟨h.blk.chg hc h1, rw_at h.be (hc.other _ h2)⟩
/-- The function value that pour hands over. -/
abbrev pasV (K : Bkk) : Value := .func (.func 52) #[bptr K] #[]
theorem bapast1_any {K : Bkk} {S : Bsn} (o : Kyy) (w : World) (h : Pw w K S) (hf : LaK S o) : Calls Try.prog 52 #[bptr K, kyV o] w fun e w' => e = .returned (.bool (pasB S.ba o)) ∧ Below w.heap.size w w' := bapast_any o w h hf.1 hf.2
/-- A name into a row of them. -/
theorem st_rwK {ops : Array Oper} {rest : List Oper} {o : Oper} {a : Act} {w : World} {Q : Exit → Act → World → Prop} (hw : Region.wanted o (yielded ops a.tmps) = true) {x y : Operand} (ho : o.op = .store 47 x y) {g cap i : Nat} {L : List Kyy} {c : Kyy} (h : Rw E3k 47 w g cap L) (hi : i < L.length) (hx : a.eval x = .pointer (some ⟨g, i * 3, none⟩)) (hy : a.eval y = kyV c)
    (hK : ∀ W', Rw E3k 47 W' g cap (L.set i c) → Chg g w W' → wpList Try.prog ops Q rest (a.put o.dst undef) W') : wpList Try.prog ops Q (o :: rest) a w := by
  unfold wpList
  rw [if_pos hw]
  left
  exact stEW o.dst rfl ho h hi c #[.int .i64 c.1, .int .i64 c.2.1, .int .i64 c.2.2] rfl rfl hx hy info_id3 hK
/-- clear, where its run is known. -/
theorem clrB_l {P : Program} {ops : Array Oper} {rest : List Oper} {o : Oper} {a : Act} {w : World} {Q : Exit → Act → World → Prop} (hw : Region.wanted o (yielded ops a.tmps) = true) {x : Operand} {t : TypeId} (ho : o.op = .call { callee := .builtin .clear, args := #[x], argTypes := #[t] }) (v : Value) (hx : a.eval x = v) {v' : Value} {w' : World}
    (hr : ∀ ty, (Builtin.clear_ #[t] ty #[v]).run P w = .ok v' w') (h : wpList P ops Q rest (a.put o.dst v') w') : wpList P ops Q (o :: rest) a w := by
  unfold wpList
  rw [if_pos hw]
  left
  unfold Oper.wp execOp
  simp only [ho, resolve, invoke, builtin, Sem.run_bind, Sem.run_pure, Result.andThen_ok, List.map_toArray, List.map_cons, List.map_nil, hx, hr]
  exact h
set_option maxHeartbeats 1000000 in
theorem baindex_any (v : Value) (l : List Kyy) {K : Bkk} {S : Bsn} (w : World) (hv : ER E3k w v l) (h : Pw w K S) (hf : ∀ o ∈ l, LaK S o) (hl : l.length ≤ 100000) :
    Calls Try.prog 70 #[v, pasV K] w fun e w' => ∃ i : Int, e = .returned (.int .i64 i) ∧ ((i = -1 ∧ ∀ o ∈ l, pasB S.ba o = false) ∨ (∃ k : Nat, i = (k : Int) ∧ k < l.length ∧ (∀ o ∈ l.take k, pasB S.ba o = false) ∧ ∀ o, l[k]? = some o → pasB S.ba o = true)) ∧ Below w.heap.size w w' := by
  obtain ⟨q, cap, g, off, rfl, hc, hm, hp, hr⟩ := hv.at
  generalize hn : l.length = n at *
  go_enter Try.func70, Try.ntmps70
  go_wp2_with fail
  go_loopw [8] (fun i wr => ∃ k : Nat, k ≤ n ∧ i = .int .i64 (k : Int) ∧ (∀ x ∈ l.take k, pasB S.ba x = false) ∧ Below w.heap.size w wr) (fun i _ => n - (intOf i).toNat)
  case atStart => exact ⟨0, by omega, rfl, fun x hx => by simp at hx, Below.refl _ _⟩
  case round =>
    obtain ⟨k, hk, rfl, hall, hw⟩ := hrel
    by_cases c : k = n
    · subst c
      have HV : Hid (∀ o ∈ l, pasB S.ba o = false) := by
        rw [List.take_of_length_le (by omega)] at hall
        exact hall
      clear hall hr
      go_wp2_with fail
      go_ret
      exact ⟨-1, rfl, .inl ⟨rfl, HV.out⟩, hw⟩
    · obtain ⟨o, ho⟩ : ∃ o, l[k]? = some o := ⟨l[k], List.getElem?_eq_getElem (by omega)⟩
      obtain ⟨rfl, hgk⟩ := hp (by omega)
      have z0 := keep_cell hw (hr k o ho 0 _ rfl) hgk
      have z1 := keep_cell hw (hr k o ho 1 _ rfl) hgk
      have z2 := keep_cell hw (hr k o ho 2 _ rfl) hgk
      rw [Nat.add_zero, show E3k.k = 3 from rfl] at z0
      rw [show E3k.k = 3 from rfl] at z1 z2
      have hki : (k : Int) < (n : Int) := by omega
      have hcw := h.keep hw
      have hfo := hf o (List.mem_of_getElem? ho)
      have HC := bapast1_any o wr hcw hfo
      unfold kyV at HC
      cases hcv : pasB S.ba o
      · have HV : Hid (∀ x ∈ l.take (k + 1), pasB S.ba x = false) := by
          intro x hm
          rw [List.take_add_one, ho] at hm
          simp only [Option.toList_some, List.mem_append, List.mem_singleton] at hm
          rcases hm with hm | rfl
          · exact hall x hm
          · exact hcv
        rw [hcv] at HC
        clear hall hr
        go_wp2_with (go_at_call 52; refine HC.mono ?_; rintro e W2 ⟨rfl, b2⟩)
        go_roundw
        case rel => exact ⟨k + 1, by omega, by go_num, HV.out, ab_trans hw b2⟩
        case measure => simp [intOf]; omega
      · have HA : Hid (∀ o ∈ l.take k, pasB S.ba o = false) := hall
        have HB : Hid (∀ x, l[k]? = some x → pasB S.ba x = true) := fun x hx => by rw [ho] at hx; cases hx; exact hcv
        rw [hcv] at HC
        clear hall hr
        go_wp2_with (go_at_call 52; refine HC.mono ?_; rintro e W2 ⟨rfl, b2⟩)
        go_ret
        exact ⟨(k : Int), rfl, .inr ⟨k, rfl, by omega, HA.out, HB.out⟩, ab_trans hw b2⟩
/-- How far DeleteFunc has come. -/
structure DlK (l L : List Kyy) (p : Kyy → Bool) (i j : Nat) : Prop where
  len : L.length = l.length
  lt : i < j
  le : j ≤ l.length
  fst : L.take i = (l.take j).filter p
  lst : L.drop j = l.drop j
theorem DlK.i {l L : List Kyy} {p : Kyy → Bool} {i j : Nat} (h : DlK l L p i j) : i = ((l.take j).filter p).length := by
  rw [← h.fst, List.length_take, h.len, Nat.min_eq_left (by have := h.lt; have := h.le; omega)]
theorem filt_snocK {l : List Kyy} {p : Kyy → Bool} {j : Nat} {o : Kyy} (ho : l[j]? = some o) : (l.take (j + 1)).filter p = (l.take j).filter p ++ (if p o = true then [o] else []) := by
  rw [List.take_add_one, ho, List.filter_append]
  congr 1
  simp only [Option.toList_some, List.filter_cons, List.filter_nil]
theorem DlK.at {l L : List Kyy} {p : Kyy → Bool} {i j : Nat} (h : DlK l L p i j) (hj : j < l.length) : L[j]? = l[j]? := by
  have e1 := List.getElem?_drop (xs := L) (i := j) (j := 0)
  have e2 := List.getElem?_drop (xs := l) (i := j) (j := 0)
  rw [Nat.add_zero] at e1 e2
  rw [← e1, ← e2, h.lst]
theorem DlK.skip {l L : List Kyy} {p : Kyy → Bool} {i j : Nat} {o : Kyy} (h : DlK l L p i j) (ho : l[j]? = some o) (hp : p o = false) : DlK l L p i (j + 1) := by
  have hj := (List.getElem?_eq_some_iff.1 ho).1
  refine ⟨h.len, by have := h.lt; omega, hj, ?_, ?_⟩
  · rw [filt_snocK ho, hp, h.fst]; simp
  · rw [← List.drop_drop, ← List.drop_drop, h.lst]
theorem DlK.take {l L : List Kyy} {p : Kyy → Bool} {i j : Nat} {o : Kyy} (h : DlK l L p i j) (ho : l[j]? = some o) (hp : p o = true) : DlK l (L.set i o) p (i + 1) (j + 1) := by
  have hj := (List.getElem?_eq_some_iff.1 ho).1
  have hlt := h.lt
  have hi : i < L.length := by rw [h.len]; omega
  refine ⟨by rw [List.length_set, h.len], by omega, hj, ?_, ?_⟩
  · rw [filt_snocK ho, hp, ← h.fst, List.take_add_one, List.take_set_of_le (Nat.le_refl _), List.getElem?_set_self hi]; simp
  · rw [List.drop_set_of_lt (by omega), ← List.drop_drop, ← List.drop_drop, h.lst]
theorem DlK.start {l : List Kyy} {p : Kyy → Bool} {k : Nat} (hk : k < l.length) (h1 : ∀ o ∈ l.take k, p o = true) (h2 : ∀ o, l[k]? = some o → p o = false) : DlK l l p k (k + 1) := by
  obtain ⟨o, ho⟩ : ∃ o, l[k]? = some o := ⟨l[k], List.getElem?_eq_getElem hk⟩
  refine ⟨rfl, by omega, hk, ?_, rfl⟩
  rw [filt_snocK ho, h2 o ho, List.filter_eq_self.2 h1]; simp
set_option maxHeartbeats 2000000 in
theorem badelete_any (l : List Kyy) (v : Value) {B : Nat} {K : Bkk} {S : Bsn} (w : World) (hO : EO E3k 47 w B v l) (h : Pw w K S) (hf : ∀ o ∈ l, LaK S o) (hl : l.length ≤ 100000) :
    Calls Try.prog 62 #[v, pasV K] w fun e w' => ∃ v', e = .returned v' ∧ EO E3k 47 w' B v' (l.filter fun o => !pasB S.ba o) ∧ Frm (fun k => v.ownBlock = some k) w w' ∧ ∀ r, v'.ownBlock = some r → v.ownBlock = some r := by
  obtain ⟨q, cap, g, off, rfl, hc, hm, hp, -⟩ := hO.er
  have HO : Hid (EO E3k 47 w B (.slice q l.length cap) l) := hO
  have hER := hO.er
  clear hO
  go_enter Try.func62, Try.ntmps62
  go_upto_region 2 with (go_at_call 70; refine (baindex_any _ l _ hER h hf hl).mono ?_; rintro e W1 ⟨i, rfl, hi, b1⟩)
  have HO1 : Hid (EO E3k 47 W1 B (.slice q l.length cap) l) := HO.out.keep b1
  have h1 := h.keep b1
  have hfr1 : Frm (fun k => (Value.slice q l.length cap).ownBlock = some k) w W1 := frm_below b1
  clear h HO hER b1
  rcases hi with ⟨rfl, hall⟩ | ⟨k, rfl, hk, hbef, hat⟩
  · have HV : Hid (l.filter (fun o => !pasB S.ba o) = l) := by
      show _ = _
      rw [List.filter_eq_self]
      intro o ho
      rw [hall o ho]; rfl
    clear hall
    go_wp2_with fail
    go_ret
    exact ⟨_, rfl, by rw [HV.out]; exact HO1.out, hfr1, fun r hr => hr⟩
  · have hD0 : DlK l l (fun o => !pasB S.ba o) k (k + 1) := DlK.start hk (fun o ho => by rw [hbef o ho]; rfl) (fun o ho => by rw [hat o ho]; rfl)
    obtain ⟨rfl, -⟩ := hp (by omega)
    clear hbef hat hp
    have hoff : off = 0 := by
      have := HO1.out.2
      rcases this with ⟨h2, _⟩ | ⟨g', cap', cur, e1, _⟩
      · cases h2
      · cases e1; rfl
    subst hoff
    obtain ⟨hR1, hBg⟩ := HO1.out.rw
    have hkm : ¬ ((k : Int) = -1) := by omega
    generalize hn : l.length = n at *
    clear HO1
    go_wp2_with fail
    go_loopw [5, 6] (fun x y wr => ∃ (i j : Nat) (L : List Kyy), x = .int .i64 (i : Int) ∧ y = .int .i64 (j : Int) ∧ DlK l L (fun o => !pasB S.ba o) i j ∧ Rw E3k 47 wr g cap L ∧ Pw wr K S ∧ Frm (fun k => (Value.slice (some ⟨g, 0, none⟩) n cap).ownBlock = some k) w wr) (fun _ y _ => n - (intOf y).toNat)
    case atStart => exact ⟨k, k + 1, l, rfl, by go_num, hD0, hR1, h1, hfr1⟩
    case round =>
      clear hD0 hR1 h1 hfr1
      obtain ⟨i, j, L, rfl, rfl, hD, hR, hC, hF⟩ := hrel
      have hLl := hD.len
      have hij := hD.lt
      have hjn := hD.le
      rw [hn] at hLl hjn
      by_cases c : j = n
      · subst c
        have hnc := hR.1
        rw [hLl] at hnc
        obtain ⟨o', es, ho'⟩ := sliced_some g 0 i j cap 3
        have ho2 := ho' (by omega)
        rw [Nat.zero_add] at ho2
        subst ho2
        have hcl := fun (ty : TypeId) => rw_clear (P := Try.prog) (ty := ty) (c := cap - i) zKy rfl Try.underlying44 zeroId hR (i := i) (n := j - i) (by omega) (by omega)
        obtain ⟨W2, hr2, hR2, C2⟩ := hcl 0
        have hr2' : ∀ ty, (Builtin.clear_ #[44] ty #[.slice (some ⟨g, i * 3, none⟩) (j - i) (cap - i)]).run Try.prog wr = .ok (.tuple #[]) W2 := fun ty => hr2
        have HR2 := hR2.eo hBg (i := i) (by rw [List.length_append, List.length_append, List.length_take, List.length_replicate]; omega)
        have HT : Hid (EO E3k 47 W2 B (.slice (some ⟨g, 0, none⟩) i cap) (l.filter fun o => !pasB S.ba o)) := by
          have e1 : (L.take i ++ List.replicate (j - i) zKy ++ L.drop (i + (j - i))).take i = L.take i := by
            rw [List.append_assoc, List.take_left' (by rw [List.length_take]; omega)]
          rw [e1, hD.fst, List.take_of_length_le (by omega)] at HR2
          exact HR2
        have hF2 := hF.trans (frm_chg (X := fun k => (Value.slice (some ⟨g, 0, none⟩) j cap).ownBlock = some k) C2 rfl)
        clear hcl hr2 hR2 HR2 hR hC C2 hD hF ho'
        go_wp2_with (first
          | (refine valS rfl _ (slo_l (o' := i * 3) rfl rfl rfl rfl eltId (sizeId _) (by omega) (by omega) es) ?_)
          | (refine valS rfl _ (slo_h rfl rfl rfl rfl eltId (sizeId _) (by omega)) ?_)
          | (refine clrB_l rfl rfl _ rfl hr2' ?_))
        go_ret
        exact ⟨_, rfl, HT.out, hF2, fun r hr => hr⟩
      · have hji : (j : Int) < (n : Int) := by omega
        obtain ⟨o, ho⟩ : ∃ o, l[j]? = some o := ⟨l[j], List.getElem?_eq_getElem (by omega)⟩
        have hoL : L[j]? = some o := by rw [hD.at (by omega)]; exact ho
        have z0 : wr.cell? ⟨g, j * 3, none⟩ = some (.int .i64 o.1) := hR.cell (i := 0) hoL rfl
        have z1 : wr.cell? ⟨g, j * 3 + 1, none⟩ = some (.int .i64 o.2.1) := hR.cell (i := 1) hoL rfl
        have z2 : wr.cell? ⟨g, j * 3 + 2, none⟩ = some (.int .i64 o.2.2) := hR.cell (i := 2) hoL rfl
        obtain ⟨A, hE, hX, hw⟩ := blk1 wr #[.int .i64 o.1, .int .i64 o.2.1, .int .i64 o.2.2] 47
        have HC := bapast1_any o A (hC.keep hw) (hf o (List.mem_of_getElem? ho))
        have y0 : A.cell? ⟨wr.heap.size, 0, none⟩ = some (.int .i64 o.1) := hX.at rfl
        have y1 : A.cell? ⟨wr.heap.size, 1, none⟩ = some (.int .i64 o.2.1) := hX.at rfl
        have y2 : A.cell? ⟨wr.heap.size, 2, none⟩ = some (.int .i64 o.2.2) := hX.at rfl
        unfold kyV at HC
        cases hcv : pasB S.ba o
        · rw [hcv] at HC
          go_upto_region 9 with (go_at_call 52; refine HC.mono ?_; rintro e W2 ⟨rfl, b2⟩)
          have HD : Hid (DlK l (L.set i o) (fun o => !pasB S.ba o) (i + 1) (j + 1)) := hD.take ho (by rw [hcv]; rfl)
          have hX2 := hX.keep b2
          have g0 : W2.cell? ⟨wr.heap.size, 0, none⟩ = some (.int .i64 o.1) := hX2.at rfl
          have g1 : W2.cell? ⟨wr.heap.size, 1, none⟩ = some (.int .i64 o.2.1) := hX2.at rfl
          have g2 : W2.cell? ⟨wr.heap.size, 2, none⟩ = some (.int .i64 o.2.2) := hX2.at rfl
          have bw := ab_trans hw b2
          have hR2 := hR.keep bw
          have hC2 := hC.keep bw
          have hF2 := hF.trans (frm_below bw)
          have hin : (i : Int) < (n : Int) := by omega
          have hiL : i < L.length := by omega
          clear hE y0 y1 y2 z0 z1 z2 hD HC hw b2 hX hR hC hF hX2
          go_wp2_with (refine st_rwK rfl rfl (c := o) hR2 hiL rfl rfl ?_; intro W3 hR3 C3)
          have hC3 := hC2.chgK C3 (rw_kind hR2)
          have hF3 := hF2.trans (frm_chg (X := fun k => (Value.slice (some ⟨g, 0, none⟩) n cap).ownBlock = some k) C3 rfl)
          refine ⟨⟨_, _, _, _, _, _, _, _, _, _, _, _, _, _, _, _, _, _, _, _, _, _, _, ?_, rfl⟩, ?_⟩
          · exact ⟨i + 1, j + 1, _, by go_num, by go_num, HD.out, hR3, hC3, hF3⟩
          · simp [intOf]; omega
        · have HD : Hid (DlK l L (fun o => !pasB S.ba o) i (j + 1)) := hD.skip ho (by rw [hcv]; rfl)
          rw [hcv] at HC
          clear hD
          go_wp2_with (go_at_call 52; refine HC.mono ?_; rintro e W2 ⟨rfl, b2⟩)
          have bw := ab_trans hw b2
          refine ⟨⟨_, _, _, _, _, _, _, _, _, _, _, _, _, _, _, _, _, _, _, _, _, _, _, ?_, rfl⟩, ?_⟩
          · exact ⟨i, j + 1, L, rfl, by go_num, HD.out, hR.keep bw, hC.keep bw, hF.trans (frm_below bw)⟩
          · simp [intOf]; omega
end Go.Proofs.Ytoeilckeebojmaa
