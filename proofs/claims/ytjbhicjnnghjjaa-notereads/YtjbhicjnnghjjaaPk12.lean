/-
  Slices of structs that the call makes and writes; note.opsOf.
  note.entryOf.
  note.entriesOf.
  note.read: the note that has these numbers.
-/
import Derived.Test.YtjbhicjnnghjjaaPk11
namespace Go.Proofs.Ytjbhicjnnghjjaa
open Go.RowKit Go.Shelf
set_option linter.unusedVariables false

/-- Cells written one behind the other. -/
def setL : List Value → Nat → List Value → List Value
  | xs, _, [] => xs
  | xs, o, c :: cs => setL (xs.set o c) (o + 1) cs
theorem setL_mid : ∀ (C A P B : List Value), A.length = C.length → setL (P ++ A ++ B) P.length C = P ++ C ++ B
  | [], A, P, B, h => by
    have : A = [] := List.eq_nil_of_length_eq_zero (by simpa using h)
    subst this
    rfl
  | c :: C, [], P, B, h => by simp at h
  | c :: C, a :: A, P, B, h => by
    unfold setL
    have e : (P ++ a :: A ++ B).set P.length c = (P ++ [c]) ++ A ++ B := by simp
    have := setL_mid C A (P ++ [c]) B (by simpa using h)
    rw [List.length_append, List.length_singleton] at this
    rw [e, this]
    simp
theorem flatA_setL (k : Nat) (ks : Nat → IntKind) (L : List (Nat → Int)) (m : Nat) (c : Nat → Int) (hm : m < L.length) : setL (flatA k ks L) (m * k) (AG k ks c).toList = flatA k ks (L.set m c) := by
  have e1 : L = L.take m ++ [L[m]] ++ L.drop (m + 1) := by simp
  have e2 : L.set m c = L.take m ++ [c] ++ L.drop (m + 1) := by
    rw [List.set_eq_take_append_cons_drop, if_pos hm]; simp
  have one : ∀ x, flatA k ks [x] = (AG k ks x).toList := fun x => by simp [flatA]
  rw [e2, ← flatA_append, ← flatA_append, one]
  conv => lhs; rw [e1, ← flatA_append, ← flatA_append, one]
  have hl : (flatA k ks (L.take m)).length = m * k := by rw [flatA_len, List.length_take, Nat.min_eq_left (by omega)]
  rw [← hl]
  exact setL_mid _ _ _ _ (by rw [AG_len, AG_len])
theorem own_setL {e size base n g cap : Nat} : ∀ (cs : List Value) (o : Nat) (W : World) (xs : List Value), W.ownsRow base e size (.slice (some ⟨g, 0, none⟩) n cap) n xs →
    (W.setCells g o cs).ownsRow base e size (.slice (some ⟨g, 0, none⟩) n cap) n (setL xs o cs) ∧ Chg g W (W.setCells g o cs)
  | [], o, W, xs, h => ⟨h, Chg.refl _ _⟩
  | c :: cs, o, W, xs, h => by
    have h1 := (h.stored o c).1
    obtain ⟨h2, h3⟩ := own_setL cs (o + 1) _ _ h1
    exact ⟨h2, (chg_set _ _ _ _).trans h3⟩
theorem so_stored {e : TypeId} {k : Nat} {ks : Nat → IntKind} {W : World} {base n g cap m : Nat} {L : List (Nat → Int)} (hk : 0 < k) (h : W.ownsRow base e k (.slice (some ⟨g, 0, none⟩) n cap) n (flatA k ks L)) (hm : m < n) (c : Nat → Int) :
    (W.setCells g (m * k) (AG k ks c).toList).ownsRow base e k (.slice (some ⟨g, 0, none⟩) n cap) n (flatA k ks (L.set m c)) ∧ Chg g W (W.setCells g (m * k) (AG k ks c).toList) ∧ W.there g (m * k) (AG k ks c).size := by
  have hlen : L.length = n := by have := h.1; rw [flatA_len] at this; exact Nat.eq_of_mul_eq_mul_right hk this
  obtain ⟨h1, h2⟩ := own_setL (AG k ks c).toList (m * k) W _ h
  rw [flatA_setL k ks L m c (by omega)] at h1
  refine ⟨h1, h2, fun j hj => ⟨?_, h.frozenAt _⟩⟩
  obtain ⟨_, _, e, _, _, _, _, hc⟩ := own_cells h (by simp)
  cases e
  rw [AG_size] at hj
  rw [hc _ _ (flatA_at k ks L m _ (List.getElem?_eq_getElem (by omega)) j _ (AG_at k ks _ j hj))]
  rfl
theorem made_A (k : Nat) (ks : Nat → IntKind) (hk : 0 < k) (n : Nat) : (madeCells (Value.agg (AG k ks zc)).cells (n * k)).toList = flatA k ks (List.replicate n zc) := by
  apply List.ext_getElem?
  intro j
  by_cases hj : j < n * k
  · have hm : j % k < k := Nat.mod_lt _ hk
    have hd : j / k < n := Nat.div_lt_of_lt_mul (by rwa [Nat.mul_comm])
    have := flatA_at k ks (List.replicate n zc) (j / k) zc (by simp [hd]) (j % k) _ (AG_at k ks zc _ hm)
    rw [Nat.mul_comm, Nat.div_add_mod] at this
    rw [this]
    simp [madeCells, Value.cells, hj, AG, hm]
  · rw [List.getElem?_eq_none (by simp [madeCells]; omega), List.getElem?_eq_none (by rw [flatA_len, List.length_replicate]; omega)]
section
variable {ops : Array Oper} {rest : List Oper} {o : Oper} {a : Act} {w : World} {Q : Exit → Act → World → Prop}
/-- 'make' of so many structs. -/
theorem mk_so (hw : Region.wanted o (yielded ops a.tmps) = true) {t e : TypeId} {k bytes : Nat} {ks : Nat → IntKind} (hk : 0 < k) (ht : Try.prog.underlying t = some (.slice e)) (hinf : (Try.prog.info? e).map (fun i => (i.zero, i.size, i.bytes)) = some (some (.agg (AG k ks zc)), k, bytes))
    {x y : Operand} (ho : o.op = .makeSlice t x y) {c : Nat} (hx : a.eval x = .int .i64 (c : Int)) (hy : a.eval y = .int .i64 (c : Int)) (hb : bytes * c ≤ 281474976710656) (hc : c ≤ 1000000000)
    (h : ∀ W', W'.ownsRow w.heap.size e k (.slice (some ⟨w.heap.size, 0, none⟩) c c) c (flatA k ks (List.replicate c zc)) → Below w.heap.size w W' → wpList Try.prog ops Q rest (a.put o.dst (.slice (some ⟨w.heap.size, 0, none⟩) c c)) W') : wpList Try.prog ops Q (o :: rest) a w := by
  obtain ⟨i, hi, hz0, hz1, hz2⟩ := info_parts hinf
  obtain ⟨w', hr, ho', hg⟩ := run_make_full (P := Try.prog) w w.heap.size t e i _ k ht hi hz0 hz1 .i64 .i64 c (by rw [hz2]; exact hb) (by unfold maxLen; omega) (Nat.le_refl _)
  rw [made_A k ks hk] at ho'
  unfold wpList
  rw [if_pos hw]
  left
  unfold Oper.wp execOp
  simp only [ho, Sem.run_bind, hx, hy, hr, Result.andThen_ok]
  exact h _ ho' (below_grown (Below.refl _ _) hg)
/-- A struct into the middle of an own row: at one operation. -/
theorem soW {K : Act → World → Prop} (d : Option Tmp) (hd : o.dst = d) {e : TypeId} {k : Nat} {ks : Nat → IntKind} (hk : 0 < k) (hi : (Try.prog.info? e).map (·.size) = some k) {x y : Operand} (ho : o.op = .store e x y) {base n g cap m : Nat} {L : List (Nat → Int)}
    (h : w.ownsRow base e k (.slice (some ⟨g, 0, none⟩) n cap) n (flatA k ks L)) (hm : m < n) (c : Nat → Int) (hx : a.eval x = .pointer (some ⟨g, m * k, none⟩)) (hy : a.eval y = .agg (AG k ks c))
    (hK : ∀ W', W'.ownsRow base e k (.slice (some ⟨g, 0, none⟩) n cap) n (flatA k ks (L.set m c)) → Chg g w W' → K (a.put d undef) W') : o.wp Try.prog a w K Q := by
  subst hd
  obtain ⟨h1, h2, h3⟩ := so_stored hk h hm c
  exact wp_store_mid e x y ho g (m * k) (AG k ks c) hx hy h3 (by rw [AG_size]; exact hi) (by rw [Array.all_eq_true']; intro x hx; exact AG_one k ks c x (by simpa using hx)) (hK _ h1 h2)
end

theorem info_opz : (Try.prog.info? 73).map (·.size) = some 5 := by kernel_rfl
/-- Operations of numbers. -/
def opAt (l : List Int) (j : Nat) : Nat → Int := fun i => l.getD (5 * j + i) 0
def opsL (l : List Int) (m : Nat) : List (Nat → Int) := (List.range m).map (opAt l)
theorem opsL_len (l : List Int) (m : Nat) : (opsL l m).length = m := by simp [opsL]
/-- As far as they are written. -/
def opsU (l : List Int) (m j : Nat) : List (Nat → Int) := opsL l j ++ List.replicate (m - j) zc
theorem opsU_next (l : List Int) (m j : Nat) (h : j < m) : (opsU l m j).set j (opAt l j) = opsU l m (j + 1) := by
  obtain ⟨d, rfl⟩ : ∃ d, m = j + d + 1 := ⟨m - j - 1, by omega⟩
  unfold opsU
  rw [List.set_append_right _ _ (by simp [opsL]), opsL_len, Nat.sub_self, show j + d + 1 - j = d + 1 by omega, show j + d + 1 - (j + 1) = d by omega, List.replicate_succ, List.set_cons_zero]
  unfold opsL
  rw [List.range_succ, List.map_append, List.append_assoc]
  rfl
theorem opsU_end (l : List Int) (m : Nat) : opsU l m m = opsL l m := by simp [opsU]

set_option maxHeartbeats 1000000 in
set_option maxRecDepth 100000 in
theorem opsOf_any (v : Value) (l : List Int) (m : Nat) (w : World) (hv : Is w v l) (hm : l.length = 5 * m) (hl : m ≤ 1000000) :
    Calls Try.prog 60 #[v] w fun e w' => ∃ v', e = .returned v' ∧ SO 73 5 k64 w' w.heap.size v' (opsL l m) ∧ Below w.heap.size w w' := by
  obtain ⟨q, cap, e⟩ := hv.form
  subst e
  have hc := hv.len
  rw [hm] at hv hc ⊢
  have hq : ((5 * m : Nat) : Int).tdiv 5 = (m : Int) := by rw [Int.tdiv_eq_ediv_of_nonneg (by omega)]; omega
  generalize hn : 5 * m = n at *
  go_enter Try.func60, Try.ntmps60
  go_upto_region 3 with (refine mk_so (k := 5) (ks := k64) rfl (by omega) Try.underlying23 infoOp rfl rfl rfl (by omega) (by omega) ?_; intro W1 hO1 b1)
  go_wp2_with fail
  go_loopw [13] (fun i wr => ∃ j : Nat, j ≤ m ∧ i = .int .i64 (j : Int) ∧ wr.ownsRow w.heap.size 73 5 (.slice (some ⟨w.heap.size, 0, none⟩) m m) m (flatA 5 k64 (opsU l m j)) ∧ Below w.heap.size w wr) (fun i _ => m - (intOf i).toNat)
  case atStart => exact ⟨0, by omega, rfl, by simpa [opsU, opsL] using hO1, b1⟩
  case round =>
    clear hO1 b1
    obtain ⟨j, hj, rfl, hO, hb⟩ := hrel
    by_cases c : j = m
    · subst c
      rw [opsU_end] at hO
      go_wp2_with fail
      go_ret
      exact ⟨_, rfl, so_of hO (by omega), hb⟩
    · have hjm : j < m := by omega
      have hji : (j : Int) < (m : Int) := by omega
      obtain ⟨J, hJ⟩ : ∃ J, J = 5 * j := ⟨_, rfl⟩
      have h5 : (5 : Int) * (j : Int) = (J : Int) := by omega
      have hle : J ≤ n := by omega
      have HJ : Hid (J = 5 * j) := hJ
      clear hJ
      have HU : Hid ((opsU l m j).set j (opAt l j) = opsU l m (j + 1)) := opsU_next l m j hjm
      have HLE : Hid (J ≤ n) := hle
      have HNN : Hid (5 * m = n) := hn
      clear hle hn
      go_upto_region 7 with (refine sli_l w rfl rfl J rfl rfl rfl HLE.out hv ?_; intro q5 i5)
      have hle := HLE.out
      have hn := HNN.out
      have hJ := HJ.out
      clear h5 HLE HNN HJ
      subst hJ
      obtain ⟨g5, o5, rfl, hg5, hr5⟩ := i5.at (by omega)
      have rd : ∀ i, i < 5 → ∀ w', Below w.heap.size w w' → w'.cell? ⟨g5, o5 + i, none⟩ = some (.int .i64 (opAt l j i)) := fun i hi w' hb' => by
        refine (hb'.cell (p := ⟨g5, o5 + i, none⟩) hg5).trans (hr5 i _ ?_)
        rw [List.getElem?_drop]
        unfold opAt
        rw [List.getD_eq_getElem?_getD, List.getElem?_eq_getElem (by omega)]
        rfl
      have r0 := rd 0 (by omega)
      have r1 := rd 1 (by omega)
      have r2 := rd 2 (by omega)
      have r3 := rd 3 (by omega)
      have r4 := rd 4 (by omega)
      rw [Nat.add_zero] at r0
      have k0 : 0 < n - 5 * j := by omega
      have k1 : 1 < n - 5 * j := by omega
      have k2 : 2 < n - 5 * j := by omega
      have k3 : 3 < n - 5 * j := by omega
      have k4 : 4 < n - 5 * j := by omega
      clear rd hr5 i5 hv hq
      generalize n - 5 * j = n5 at *
      generalize cap - 5 * j = c5 at *
      have m1 : (1 : Int) < (n5 : Int) := by omega
      have m2 : (2 : Int) < (n5 : Int) := by omega
      have m3 : (3 : Int) < (n5 : Int) := by omega
      have m4 : (4 : Int) < (n5 : Int) := by omega
      refine wp_region_held_drew (S := fun w' => Below w.heap.size w w') (by kernel_rfl) (ab_drew hb) (fun hHeld => ?_)
      refine takeH (i := 0) (some 20) rfl rfl (by kernel_rfl) (by kernel_rfl) (by kernel_rfl) (fun _ _ _ h => h) (by rfl) (fun w hSw => by (try dsimp only at hSw); go_simp; try rfl) hHeld ?_
      go_frame
      refine takeH (i := 1) (some 21) rfl rfl (by kernel_rfl) (by kernel_rfl) (by kernel_rfl) (fun _ _ _ h => h) (by rfl) (fun w hSw => by (try dsimp only at hSw); go_simp; try rfl) hHeld ?_
      go_frame
      refine takeH (i := 2) (some 22) rfl rfl (by kernel_rfl) (by kernel_rfl) (by kernel_rfl) (fun _ _ _ h => h) (by rfl) (fun w hSw => by (try dsimp only at hSw); go_simp; try rfl) hHeld ?_
      go_frame
      refine takeH (i := 3) (some 23) rfl rfl (by kernel_rfl) (by kernel_rfl) (by kernel_rfl) (fun _ _ _ h => h) (by rfl) (fun w hSw => by (try dsimp only at hSw); go_simp; try rfl) hHeld ?_
      go_frame
      refine takeH (i := 4) (some 24) rfl rfl (by kernel_rfl) (by kernel_rfl) (by kernel_rfl) (fun _ _ _ h => h) (by rfl) (fun w hSw => by (try dsimp only at hSw); have hr := r0 _ hSw; go_simp; try rfl) hHeld ?_
      go_frame
      refine takeH (i := 5) (some 25) rfl rfl (by kernel_rfl) (by kernel_rfl) (by kernel_rfl) (fun _ _ _ h => h) (by rfl) (fun w hSw => by (try dsimp only at hSw); go_simp; try rfl) hHeld ?_
      go_frame
      refine takeH (i := 6) (some 26) rfl rfl (by kernel_rfl) (by kernel_rfl) (by kernel_rfl) (fun _ _ _ h => h) (by rfl) (fun w hSw => by (try dsimp only at hSw); go_simp; try rfl) hHeld ?_
      go_frame
      refine takeH (i := 7) (some 27) rfl rfl (by kernel_rfl) (by kernel_rfl) (by kernel_rfl) (fun _ _ _ h => h) (by rfl) (fun w hSw => by (try dsimp only at hSw); have hr := r1 _ hSw; go_simp; try rfl) hHeld ?_
      go_frame
      refine takeH (i := 8) (some 28) rfl rfl (by kernel_rfl) (by kernel_rfl) (by kernel_rfl) (fun _ _ _ h => h) (by rfl) (fun w hSw => by (try dsimp only at hSw); go_simp; try rfl) hHeld ?_
      go_frame
      refine takeH (i := 9) (some 29) rfl rfl (by kernel_rfl) (by kernel_rfl) (by kernel_rfl) (fun _ _ _ h => h) (by rfl) (fun w hSw => by (try dsimp only at hSw); go_simp; try rfl) hHeld ?_
      go_frame
      refine takeH (i := 10) (some 30) rfl rfl (by kernel_rfl) (by kernel_rfl) (by kernel_rfl) (fun _ _ _ h => h) (by rfl) (fun w hSw => by (try dsimp only at hSw); have hr := r2 _ hSw; go_simp; try rfl) hHeld ?_
      go_frame
      refine takeH (i := 11) (some 31) rfl rfl (by kernel_rfl) (by kernel_rfl) (by kernel_rfl) (fun _ _ _ h => h) (by rfl) (fun w hSw => by (try dsimp only at hSw); go_simp; try rfl) hHeld ?_
      go_frame
      refine takeH (i := 12) (some 32) rfl rfl (by kernel_rfl) (by kernel_rfl) (by kernel_rfl) (fun _ _ _ h => h) (by rfl) (fun w hSw => by (try dsimp only at hSw); go_simp; try rfl) hHeld ?_
      go_frame
      refine takeH (i := 13) (some 33) rfl rfl (by kernel_rfl) (by kernel_rfl) (by kernel_rfl) (fun _ _ _ h => h) (by rfl) (fun w hSw => by (try dsimp only at hSw); have hr := r3 _ hSw; go_simp; try rfl) hHeld ?_
      go_frame
      refine takeH (i := 14) (some 34) rfl rfl (by kernel_rfl) (by kernel_rfl) (by kernel_rfl) (fun _ _ _ h => h) (by rfl) (fun w hSw => by (try dsimp only at hSw); go_simp; try rfl) hHeld ?_
      go_frame
      refine takeH (i := 15) (some 35) rfl rfl (by kernel_rfl) (by kernel_rfl) (by kernel_rfl) (fun _ _ _ h => h) (by rfl) (fun w hSw => by (try dsimp only at hSw); go_simp; try rfl) hHeld ?_
      go_frame
      refine takeH (i := 16) (some 36) rfl rfl (by kernel_rfl) (by kernel_rfl) (by kernel_rfl) (fun _ _ _ h => h) (by rfl) (fun w hSw => by (try dsimp only at hSw); have hr := r4 _ hSw; go_simp; try rfl) hHeld ?_
      go_frame
      refine takeH (i := 17) (some 37) rfl rfl (by kernel_rfl) (by kernel_rfl) (by kernel_rfl) (fun _ _ _ h => h) (by rfl) (fun w hSw => by (try dsimp only at hSw); go_simp; try rfl) hHeld ?_
      go_frame
      refine takeH (i := 18) (some 38) rfl rfl (by kernel_rfl) (by kernel_rfl) (by kernel_rfl) (fun _ _ _ h => h) (by rfl) (fun w hSw => by (try dsimp only at hSw); go_simp; try rfl) hHeld ?_
      go_frame
      refine wpAnyH_ready (rs := [19]) (by kernel_rfl) (by simp) (AllReadyH.cons rfl (fun K hK => ?_) AllReadyH.nil)
      rw [if_pos (by rfl)]
      refine soW none rfl (k := 5) (ks := k64) (by omega) info_opz rfl (own_keep hO (ab_drew (Below.refl _ _))) hjm (opAt l j) rfl rfl fun W5 hO5 C5 => ?_
      have hb5 : Below w.heap.size w W5 := ab_chg (ab_drew hb) C5 (Nat.le_refl _)
      refine hK.out _ _ hb5 (fun hHeld => ?_)
      clear hK K
      refine wpAnyH_done (by kernel_rfl) ?_ _
      rw [HU.out] at hO5
      go_wp2_with fail
      exact ⟨⟨j + 1, by omega, rfl, hO5, hb5⟩, by simp only [intOf]; omega⟩
end Go.Proofs.Ytjbhicjnnghjjaa
namespace Go.Proofs.Ytjbhicjnnghjjaa
open Go.RowKit Go.Shelf
set_option linter.unusedVariables false

def mkE (a b : Int) (c : Nat → Int) : Nat → Int := fun i => if i = 0 then a else if i = 1 then b else c (i - 2)
theorem built_ent (a b : Int) (c : Nat → Int) : Try.prog.built 82 [(0, .agg #[.int .i64 a, .int .i64 b]), (1, .agg (CA c))] = some (EA (mkE a b c)) := by kernel_rfl
theorem zc_ent : Try.zeroCells82 = EA zc := by kernel_rfl
theorem built_ent0 : Try.prog.built 82 [] = some (EA zc) := by kernel_rfl
theorem cE_mkE (a b : Int) (c : Nat → Int) : cE (mkE a b c) = c := by
  funext i
  unfold cE mkE
  rw [if_neg (by omega), if_neg (by omega), Nat.add_sub_cancel_left]
theorem enN_mkE (a b : Int) (c : Nat → Int) : enN (mkE a b c) = a :: b :: numsF c := by unfold enN; rw [cE_mkE]; rfl
theorem EA_all (c : Nat → Int) : (EA c).all (·.oneCell') = true := by rw [Array.all_eq_true']; intro x hx; exact AG_one 76 ek c x (by simpa using hx)

/-- Numbers that begin with no entry. -/
def NoE (l : List Int) : Prop := l.length < 2 ∨ NoT (l.drop 2)
theorem noT_nums {l : List Int} (h : NoT l) {c : Nat → Int} (hc : Wf c) (more : List Int) : l ≠ numsF c ++ more := by
  intro e
  obtain ⟨hp, nx, g, hf, -⟩ := take_nums c hc more
  rw [← e] at hp
  rcases h with h | ⟨h1, h2⟩ | ⟨ps, more', h1, h2⟩
  · have := hp.len; omega
  · have h3 := congrArg List.length hp.rest
    rw [List.length_drop, List.length_append, flatP_len] at h3
    have h4 := hp.nine
    omega
  · have h3 : ps.length = (pp (Go.Proofs.Ytjbhicjnnghjjaa.hf c) 65).length := by have := h1.nine.symm.trans hp.nine; omega
    have h4 := h1.rest.symm.trans hp.rest
    have h5 := (List.append_inj h4 (by rw [flatP_len, flatP_len, h3])).1
    rw [flatP_inj _ _ h5, hf] at h2
    cases h2
theorem noE_nums {l : List Int} (h : NoE l) {e : Nat → Int} (he : WE e) (more : List Int) : l ≠ enN e ++ more := by
  intro eq
  rcases h with h | h
  · rw [eq] at h; simp [enN] at h; omega
  · refine noT_nums h he.2.2 more ?_
    rw [eq]
    simp [enN]
/-- Or with one. -/
theorem entry_cases (l : List Int) : NoE l ∨ ∃ a b r ps more nx h, l = a :: b :: r ∧ Parts r ps more ∧ foldH ps = some (nx, h) := by
  match l with
  | [] => exact .inl (.inl (by simp))
  | [_] => exact .inl (.inl (by simp))
  | a :: b :: r =>
    rcases take_cases r with h | ⟨ps, more, nx, h, h1, h2⟩
    · exact .inl (.inr h)
    · exact .inr ⟨a, b, r, ps, more, nx, h, rfl, h1, h2⟩

set_option maxRecDepth 100000 in
theorem entry_short (q : Option Addr) (n cap : Nat) (w : World) (h : n < 2) :
    Calls Try.prog 66 #[.slice q n cap] w fun e w' => e = .returned (.tuple #[.agg (EA zc), .slice none 0 0, .bool false]) ∧ Below w.heap.size w w' := by
  have h' : (n : Int) < 2 := by omega
  go_enter Try.func66, Try.ntmps66
  go_wp2_with (first
    | (refine al_ent rfl rfl ?_; intro W1 e1 hE1 b1; clear e1)
    | (refine st_ent (c := zc) rfl rfl hE1 rfl (congrArg Value.agg zc_ent) ?_; intro W2 hE2 C2))
  exact bodyPost_ret (results_c3 rfl _ _ _ 82 _ (0, 0) _ _ _ rfl rfl rfl hE2 Try.underlying82 rfl (info_ent _)) rfl ⟨rfl, ab_chg b1 C2 (Nat.le_refl _)⟩

theorem io_chg {W W' : World} {base b : Nat} {v : Value} {l : List Int} (h : Io W base v l) (hc : Chg b W W') (hb : b < base) : Io W' base v l := by
  refine ⟨h.1, ?_⟩
  rcases h.2 with h2 | ⟨g, cap, cur, h1, h2, hg, h3⟩
  · exact .inl h2
  · exact .inr ⟨g, cap, cur, h1, h2, Blk.chg hg hc (by omega), h3⟩
set_option maxHeartbeats 1000000 in
set_option maxRecDepth 100000 in
/-- An entry out of what cell.Take says of the numbers behind the place. -/
theorem entry_by (v : Value) (a b : Int) (r : List Int) (c : Nat → Int) (ok : Bool) (more : List Int) (w : World) (hv : Is w v (a :: b :: r))
    (hT : ∀ W u, Below w.heap.size w W → Is W u r → Calls Try.prog 68 #[u] W fun e w' => ∃ x, e = .returned (.tuple #[.agg (CA c), x, .bool ok]) ∧ Io w' W.heap.size x more ∧ Below W.heap.size W w') :
    Calls Try.prog 66 #[v] w fun e w' => ∃ x, e = .returned (.tuple #[.agg (EA (mkE a b c)), x, .bool ok]) ∧ Io w' w.heap.size x more ∧ Below w.heap.size w w' := by
  obtain ⟨q, cap, e⟩ := hv.form
  subst e
  have hp2 := fun W (h : Is W (.slice q (a :: b :: r).length cap) (a :: b :: r)) => placeOf_any _ _ W h (by simp)
  have hlen := hv.len
  have h2 : 2 ≤ (a :: b :: r).length := by simp
  obtain ⟨q2, e2⟩ := sliced_form q 2 (a :: b :: r).length cap
  have HS : Hid (∀ W, Below w.heap.size w W → Is W (.slice q2 ((a :: b :: r).length - 2) (cap - 2)) r) := fun W hb => by
    have := hv.sub (i := 2) h2 (Nat.le_refl _) (Nat.le_refl _) hlen.2.1 e2.symm
    rw [List.take_of_length_le (by simp)] at this
    exact this.keep hb
  have HE : Hid (sliced q 2 (a :: b :: r).length cap 1 = .slice q2 ((a :: b :: r).length - 2) (cap - 2)) := e2
  have HPl : Hid (∀ W, Below w.heap.size w W → Calls Try.prog 46 #[.slice q (a :: b :: r).length cap] W fun e w' => e = .returned (.agg #[.int .i64 a, .int .i64 b]) ∧ Below W.heap.size W w') := fun W hb => hp2 W (hv.keep hb)
  have HC : Hid ((a :: b :: r).length ≤ cap) := hlen.2.1
  have HT : Hid (∀ W u, Below w.heap.size w W → Is W u r → Calls Try.prog 68 #[u] W fun e w' => ∃ x, e = .returned (.tuple #[.agg (CA c), x, .bool ok]) ∧ Io w' W.heap.size x more ∧ Below W.heap.size W w') := hT
  clear hp2 e2 hlen hv hT
  generalize (a :: b :: r).length = n at *
  have hn2 : (2 : Int) ≤ (n : Int) := by omega
  have H2 : Hid (2 ≤ n) := h2
  clear h2
  go_enter Try.func66, Try.ntmps66
  go_upto_region 3 with (refine al_ent rfl rfl ?_; intro W1 e1 hE1 b1; clear e1)
  go_upto_region 4 with (first
    | (refine valS rfl _ ((sli_l_run rfl rfl rfl (i := 2) rfl H2.out HC.out).trans (by rw [HE.out])) ?_)
    | (go_at_call 68; refine (HT.out _ _ b1 (HS.out _ b1)).mono ?_; rintro e W2 ⟨x, rfl, hx2, b2⟩)
    | (refine al_cell rfl rfl ?_; intro W3 e3 hC3 b3; clear e3)
    | (refine st_cell rfl rfl hC3 rfl rfl ?_; intro W4 hC4 C4))
  have z1 : w.heap.size < W1.heap.size := hE1.lt
  have b4 : Below W2.heap.size W2 W4 := ab_chg b3 C4 (Nat.le_refl _)
  have hE4 := (hE1.keep b2).keep b4
  have hx4 : Io W4 (w.heap.size + 1) x more := (hx2.keep b4).less z1
  have hw4 := ab_trans (ab_trans b1 b2) b4
  have hne : W2.heap.size ≠ w.heap.size := by have := b2.size; omega
  clear hE1 b2 b3 b4 hC3 C4 hx2 HT HS HE HC H2 z1 b1
  generalize W2.heap.size = B at *
  refine wp_region_held_drew (S := fun w' => Below w.heap.size w w' ∧ Blk w' B (CA c) 80 ∧ Io w' (w.heap.size + 1) x more) (by kernel_rfl) ⟨ab_drew hw4, hC4.drew, hx4.keep (ab_drew (Below.refl _ _))⟩ (fun hHeld => ?_)
  refine takeH (i := 0) (some 19) rfl rfl (by kernel_rfl) (by kernel_rfl) (by kernel_rfl) (fun _ _ _ h => h) (by rfl) (fun w hSw => by (try dsimp only at hSw); go_simp; try rfl) hHeld ?_
  go_frame
  refine takeH (i := 2) (some 21) rfl rfl (by kernel_rfl) (by kernel_rfl) (by kernel_rfl) (fun _ _ _ h => h) (by rfl) (fun w hSw => by (try dsimp only at hSw); exact ld_oper rfl rfl hSw.2.1) hHeld ?_
  go_frame
  refine takeH (i := 4) (some 23) rfl rfl (by kernel_rfl) (by kernel_rfl) (by kernel_rfl) (fun _ _ _ h => h) (by rfl) (fun w hSw => by (try dsimp only at hSw); go_simp; try rfl) hHeld ?_
  go_frame
  refine takeH (i := 5) (some 24) rfl rfl (by kernel_rfl) (by kernel_rfl) (by kernel_rfl) (fun _ _ _ h => h) (by rfl) (fun w hSw => by (try dsimp only at hSw); go_simp; try rfl) hHeld ?_
  go_frame
  refine wpAnyH_ready (rs := [1]) (by kernel_rfl) (by simp) (AllReadyH.cons rfl (fun K hK => ?_) AllReadyH.nil)
  go_simp
  refine (HPl.out _ hHeld.1).mono ?_
  rintro e W5 ⟨rfl, b5⟩
  show K _ _
  refine hK.out _ _ ⟨ab_trans hHeld.1 b5, hHeld.2.1.keep b5, hHeld.2.2.keep b5⟩ (fun hHeld => ?_)
  clear hK K
  have hE5 := hE4.drew.keep b5
  refine takeH (i := 3) (some 22) rfl rfl (by kernel_rfl) (by kernel_rfl) (by kernel_rfl) (fun _ _ _ h => h) (by rfl) (fun w hSw => by (try dsimp only at hSw); exact bd_run rfl (built_ent a b c) (by simp only [List.map_toArray, List.map_cons, List.map_nil]; rfl) w) hHeld ?_
  go_frame
  refine wpAnyH_ready (rs := [6]) (by kernel_rfl) (by simp) (AllReadyH.cons rfl (fun K hK => ?_) AllReadyH.nil)
  rw [if_pos (by rfl)]
  refine stW none rfl rfl hE5 rfl rfl (info_ent _) (by rw [AG_size, AG_size]) (EA_all _) fun W6 hE6 C6 => ?_
  have hx6 := io_chg hHeld.2.2 C6 (by omega)
  have hw6 : Below w.heap.size w W6 := ab_chg hHeld.1 C6 (Nat.le_refl _)
  refine hK.out _ _ ⟨hw6, hHeld.2.1.chg C6 hne, hx6⟩ (fun hHeld => ?_)
  clear hK K
  go_frame
  refine takeH (i := 7) (some 3) rfl rfl (by kernel_rfl) (by kernel_rfl) (by kernel_rfl) (fun _ _ _ h => h) (by rfl) (fun w hSw => by (try dsimp only at hSw); go_simp; try rfl) hHeld ?_
  go_frame
  refine takeH (i := 8) (some 4) rfl rfl (by kernel_rfl) (by kernel_rfl) (by kernel_rfl) (fun _ _ _ h => h) (by rfl) (fun w hSw => by (try dsimp only at hSw); go_simp; try rfl) hHeld ?_
  go_frame
  refine wpAnyH_done (by kernel_rfl) ?_ _
  go_wp2_with fail
  exact bodyPost_ret (results_c3 rfl _ _ _ 82 _ (0, 0) _ _ _ rfl rfl rfl hE6 Try.underlying82 rfl (info_ent _)) rfl ⟨_, rfl, hx6.less (by omega), hw6⟩
theorem entry_yes (v : Value) (a b : Int) (r : List Int) (ps : List PV) (more : List Int) (nx : Nat) (h : Nat → Int) (w : World) (hv : Is w v (a :: b :: r)) (hl : r.length ≤ 20000) (hp : Parts r ps more) (hf : foldH ps = some (nx, h)) :
    Calls Try.prog 66 #[v] w fun e w' => ∃ x, e = .returned (.tuple #[.agg (EA (mkE a b (cellOf r h))), x, .bool true]) ∧ Io w' w.heap.size x more ∧ Below w.heap.size w w' := by
  refine entry_by v a b r (cellOf r h) true more w hv fun W u hW hu => ?_
  obtain ⟨q, cap, e⟩ := hu.form
  subst e
  have hlen := hu.len
  obtain ⟨g, off, rfl, hg, hr⟩ := hu.at (by have := hp.len; omega)
  exact (take_yes g off r.length cap r ps more nx h W rfl hl hlen.2.1 hp.len hg hr hp hf)
theorem entry_no (v : Value) (l : List Int) (w : World) (hv : Is w v l) (hl : l.length ≤ 20000) (hno : NoE l) :
    Calls Try.prog 66 #[v] w fun e w' => ∃ c x, e = .returned (.tuple #[.agg (EA c), x, .bool false]) ∧ Below w.heap.size w w' := by
  by_cases h2 : l.length < 2
  · obtain ⟨q, cap, e⟩ := hv.form
    subst e
    exact (entry_short q _ cap w h2).mono fun e w' ⟨h1, h2⟩ => ⟨_, _, h1, h2⟩
  · match l, hv, hl, hno, h2 with
    | a :: b :: r, hv, hl, hno, h2 =>
      have hn : NoT r := by
        rcases hno with h | h
        · exact absurd h h2
        · simpa using h
      refine (entry_by v a b r zc false [] w hv fun W u hW hu => ?_).mono ?_
      · obtain ⟨q, cap, g, off, e, h1, h2, h3, h4, h5⟩ := hu
        subst e
        refine (take_none q g off r.length cap r W rfl (by simp at hl; omega) h1 h3 h4 h5 hn).mono fun e w' ⟨h1, h2⟩ => ⟨.slice none 0 0, h1, World.ownsRow_nil w' _ _ _, h2⟩
      · rintro e w' ⟨x, rfl, hx, hb⟩
        exact ⟨_, _, rfl, hb⟩
    | [_], _, _, _, h2 => simp at h2
    | [], _, _, _, h2 => simp at h2
end Go.Proofs.Ytjbhicjnnghjjaa
namespace Go.Proofs.Ytjbhicjnnghjjaa
open Go.RowKit Go.Shelf
set_option linter.unusedVariables false

section
variable {ops : Array Oper} {rest : List Oper} {o : Oper} {a : Act} {w : World} {Q : Exit → Act → World → Prop}
/-- append of structs onto an own slice of them. -/
theorem app_s (A : World) (hw : Region.wanted o (yielded ops a.tmps) = true) {s x : Operand} {t e : TypeId} {k bytes : Nat} {ks : Nat → IntKind} (ho : o.op = .call { callee := .builtin .append, args := #[s, x], argTypes := #[t, t] })
    (hk : 0 < k) (ht : Try.prog.underlying t = some (.slice e)) (hinf : (Try.prog.info? e).map (fun i => (i.zero, i.size, i.bytes)) = some (some (.agg (AG k ks zc)), k, bytes))
    {v vx : Value} {l m : List (Nat → Int)} (hs : a.eval s = v) (hown : SO e k ks w A.heap.size v l) (hx : a.eval x = vx) (hsl : SR k ks w vx m) (h63 : l.length + m.length ≤ 1000000000) (hbytes : (l.length + m.length) * bytes ≤ 140737488355328) (hA : Below A.heap.size A w)
    (h : ∀ v' w', SO e k ks w' A.heap.size v' (l ++ m) → Below A.heap.size A w' → w.grownBy w' v.ownBlock → wpList Try.prog ops Q rest (a.put o.dst v') w') : wpList Try.prog ops Q (o :: rest) a w := by
  obtain ⟨q, cap, rfl, hq, hsrc⟩ := hsl.src hk
  refine app_ownG A hw ho ht hinf (by show (AG k ks zc).size = k; exact AG_size _ _ _) hk hs hown (flatA k ks m) hx hq (flatA_len k ks m) hsrc (flatA_one k ks m) (by unfold maxLen; omega) hbytes hA fun v' w' h1 h2 h3 h4 => ?_
  rw [flatA_append] at h1
  exact h v' w' (so_of h1 hk) h3 h4
theorem bse1 (e : Nat → Int) (w : World) : (Instr.buildSlice 24 1 #[(0, .agg (EA e))]).run Try.prog w = .ok (.slice (some ⟨w.heap.size, 0, none⟩) 1 1) (w.alloc (.cells (EA e) 82)) := by kernel_rfl
theorem so_new1 (w : World) (e : Nat → Int) : SO 82 76 ek (w.alloc (.cells (EA e) 82)) w.heap.size (.slice (some ⟨w.heap.size, 0, none⟩) 1 1) [e] := by
  have hf : flatA 76 ek [e] = (EA e).toList := by simp [flatA]
  refine ⟨flatA_len 76 ek [e], .inr ⟨w.heap.size, 1, EA e, rfl, Nat.le_refl _, by show (w.heap.push _)[w.heap.size]? = _; simp, by simp, by unfold maxLen; omega, ?_, ?_⟩⟩
  · simp [AG_size]
  · rw [hf]; exact List.take_of_length_le (by rw [AG_len]; simp)
theorem bs_e1 (hw : Region.wanted o (yielded ops a.tmps) = true) {parts : Array (Nat × Operand)} (ho : o.op = .buildSlice 24 1 parts) (e : Nat → Int) (hl : parts.map (fun (i, x) => (i, a.eval x)) = #[(0, .agg (EA e))])
    (h : ∀ W', SO 82 76 ek W' w.heap.size (.slice (some ⟨w.heap.size, 0, none⟩) 1 1) [e] → Below w.heap.size w W' → wpList Try.prog ops Q rest (a.put o.dst (.slice (some ⟨w.heap.size, 0, none⟩) 1 1)) W') : wpList Try.prog ops Q (o :: rest) a w := by
  unfold wpList
  rw [if_pos hw]
  left
  unfold Oper.wp execOp
  simp only [ho, Sem.run_bind, hl, bse1, Result.andThen_ok]
  exact h _ (so_new1 w e) ((Below.refl _ _).alloc (Nat.le_refl _) _)
end
theorem SO.form {e : TypeId} {k : Nat} {ks : Nat → IntKind} {W : World} {base : Nat} {v : Value} {l : List (Nat → Int)} (h : SO e k ks W base v l) (hk : 0 < k) : ∃ q cap, v = .slice q l.length cap := by
  obtain ⟨q, cap, g, off, h1, _⟩ := h.sr hk
  exact ⟨q, cap, h1⟩
theorem SO.less {e : TypeId} {k : Nat} {ks : Nat → IntKind} {W : World} {base base' : Nat} {v : Value} {l : List (Nat → Int)} (h : SO e k ks W base v l) (hb : base' ≤ base) : SO e k ks W base' v l := own_less h hb
theorem so_nil (e : TypeId) (k : Nat) (ks : Nat → IntKind) (W : World) (base : Nat) : SO e k ks W base (.slice none 0 0) [] := World.ownsRow_nil W _ _ _

/-- What entriesOf answers. -/
def EnP (W : World) (base : Nat) (l : List Int) (e : Ending) : Prop :=
  (∃ es v, l = tailN es ∧ es.length ≤ 16 ∧ (∀ x ∈ es, WE x) ∧ e = .returned (.tuple #[v, .bool true]) ∧ SO 82 76 ek W base v es) ∨
  ((∀ es, es.length ≤ 16 → (∀ x ∈ es, WE x) → l ≠ tailN es) ∧ ∃ q n c, e = .returned (.tuple #[.slice q n c, .bool false]))
theorem ents_split : ∀ (done es : List (Nat → Int)) (rest : List Int), done.length ≤ es.length → done.flatMap enN ++ rest = es.flatMap enN → rest = (es.drop done.length).flatMap enN
  | [], es, rest, _, h => by simpa using h
  | d :: done, [], rest, h, _ => by simp at h
  | d :: done, e :: es, rest, h, he => by
    rw [List.flatMap_cons, List.flatMap_cons, List.append_assoc] at he
    obtain ⟨_, h2⟩ := enN_pre he
    simpa using ents_split done es rest (by simpa using h) h2
theorem ent_wf {a b : Int} {r : List Int} {ps : List PV} {more : List Int} {nx : Nat} {h : Nat → Int} (hf : In64 (a :: b :: r)) (hp : Parts r ps more) (e : foldH ps = some (nx, h)) : WE (mkE a b (cellOf r h)) := by
  refine ⟨hf a (by simp), hf b (by simp), ?_⟩
  rw [cE_mkE]
  exact cellOf_wf hp e fun x hx => hf x (by simp [hx])
theorem ent_back {a b : Int} {r : List Int} {ps : List PV} {more : List Int} {nx : Nat} {h : Nat → Int} (hf : In64 (a :: b :: r)) (hp : Parts r ps more) (e : foldH ps = some (nx, h)) : enN (mkE a b (cellOf r h)) ++ more = a :: b :: r := by
  have h2 : Fit (r.getD 2 0) := by
    have hl := hp.len
    rw [List.getD_eq_getElem?_getD, List.getElem?_eq_getElem (by omega)]
    exact hf _ (by simp)
  rw [enN_mkE, List.cons_append, List.cons_append, take_back hp e h2.1 h2.2]

theorem entries_short (q : Option Addr) (cap : Nat) (w : World) : Calls Try.prog 61 #[.slice q 0 cap] w fun e w' => EnP w' w.heap.size [] e ∧ Below w.heap.size w w' := by
  have HE : ∀ W, Hid (EnP W w.heap.size [] (.returned (.tuple #[.slice none 0 0, .bool false]))) := fun W => .inr ⟨fun es _ _ h => by simp [tailN] at h, _, _, _, rfl⟩
  go_enter Try.func61, Try.ntmps61
  go_wp2_with fail
  go_step3
  go_wp2_with fail
  rw [Exit.noGoto_ret]
  go_ret2
  exact ⟨(HE _).out, Below.refl _ _⟩

set_option maxHeartbeats 1000000 in
set_option maxRecDepth 100000 in
theorem entries_any (v : Value) (c : Int) (r : List Int) (w : World) (hv : Is w v (c :: r)) (hf : In64 (c :: r)) (hl : r.length ≤ 20000) :
    Calls Try.prog 61 #[v] w fun e w' => EnP w' w.heap.size (c :: r) e ∧ Below w.heap.size w w' := by
  obtain ⟨q, cap, e⟩ := hv.form
  subst e
  have hlen := hv.len
  obtain ⟨g, off, rfl, hg, hr⟩ := hv.at (by simp)
  have c0 := hr 0 c rfl
  rw [Nat.add_zero] at c0
  obtain ⟨q1, e1⟩ := sliced_form (some ⟨g, off, none⟩) 1 (r.length + 1) cap
  have H1 : Hid (Is w (.slice q1 (r.length + 1 - 1) (cap - 1)) r) := by
    have := hv.sub (i := 1) (j := r.length + 1) (by omega) (by simp) (Nat.le_refl _) (by simpa using hlen.2.1) e1.symm
    rw [List.drop_succ_cons, List.drop_zero, List.take_of_length_le (by omega)] at this
    exact this
  have HE1 : Hid (sliced (some ⟨g, off, none⟩) 1 (r.length + 1) cap 1 = .slice q1 (r.length + 1 - 1) (cap - 1)) := e1
  have HC : Hid (r.length + 1 ≤ cap) := by have := hlen.2.1; show _ ≤ _; simpa using this
  have hcF : Fit c := hf c (by simp)
  have HFr : Hid (In64 r) := fun x hx => hf x (by simp [hx])
  rw [Nat.add_sub_cancel] at H1 HE1
  clear hr hv e1 hlen hf
  rw [show (c :: r).length = r.length + 1 from rfl]
  generalize hrl : r.length = n at *
  have hn1 : 0 < n + 1 := by omega
  have hn0 : ((n : Int) + 1 == 0) = false := by simp; omega
  unfold Fit at hcF
  by_cases h0 : c < 0
  · have HE : ∀ W, Hid (EnP W w.heap.size (c :: r) (.returned (.tuple #[.slice none 0 0, .bool false]))) := fun W => .inr ⟨fun es _ _ h => by simp [tailN] at h; omega, _, _, _, rfl⟩
    go_enter Try.func61, Try.ntmps61
    go_wp2_with fail
    go_step3
    go_wp2_with fail
    rw [Exit.noGoto_ret]
    go_ret2
    exact ⟨(HE _).out, Below.refl _ _⟩
  · by_cases h16 : 16 < c
    · have HE : ∀ W, Hid (EnP W w.heap.size (c :: r) (.returned (.tuple #[.slice none 0 0, .bool false]))) := fun W => .inr ⟨fun es _ _ h => by simp [tailN] at h; omega, _, _, _, rfl⟩
      go_enter Try.func61, Try.ntmps61
      go_wp2_with fail
      go_step3
      go_wp2_with fail
      rw [Exit.noGoto_ret]
      go_ret2
      exact ⟨(HE _).out, Below.refl _ _⟩
    · obtain ⟨m, rfl⟩ : ∃ m : Nat, c = (m : Int) := ⟨c.toNat, by omega⟩
      have hm16 : m ≤ 16 := by omega
      go_enter Try.func61, Try.ntmps61
      go_wp2_with fail
      go_step3
      go_upto_region 3 with fail
      have hc' := cls_cell c0
      refine wp_region_below (by kernel_rfl) (by kernel_rfl) ?_
      have HZ := cls_some w
      go_big_quiet_step (fail)
      go_big_quiet_step (fail)
      go_big_quiet_step (fail)
      go_big_quiet_step (fail)
      refine quiet_val rfl _ (fun w' _ => (sli_l_run rfl rfl rfl (i := 1) rfl (by omega) HC.out).trans (by rw [HE1.out])) ?_
      simp only [Act.put, List.setIfInBounds_toArray, List.set_cons_succ, List.set_cons_zero]
      go_big_quiet_step (fail)
      go_big_quiet_step (fail)
      refine wpQuiet_nil ?_
      rintro w7 ⟨⟨W7, b7⟩, e7⟩
      dsimp only at e7
      subst e7
      have i7 := H1.out.keep b7
      clear HZ hc' H1 HE1 c0 hcF h0 h16
      go_wp2_with fail
      go_step3
      go_wp2_with fail
      go_loopw [5, 6, 31] (fun x y i wr => ∃ (done : List (Nat → Int)) (rs : List Int), done.length ≤ m ∧ i = .int .i64 (done.length : Int) ∧ r = done.flatMap enN ++ rs ∧ (∀ x ∈ done, WE x) ∧ Is wr x rs ∧ SO 82 76 ek wr w.heap.size y done ∧ Below w.heap.size w wr) (fun _ _ i _ => m - (intOf i).toNat)
      case atStart => exact ⟨[], r, by simp, rfl, by simp, fun x hx => by simp at hx, i7, so_nil _ _ _ _ _, b7⟩
      case round =>
        clear i7 b7
        obtain ⟨done, rs, hk, rfl, hrs, hwd, I, O, hb⟩ := hrel
        have HR : Hid (r = done.flatMap enN ++ rs) := hrs
        have HWd : Hid (∀ x ∈ done, WE x) := hwd
        have HFs : Hid (In64 rs) := fun x hx => HFr.out x (by rw [hrs]; exact List.mem_append_right _ hx)
        have HLs : Hid (rs.length ≤ 20000) := by
          have h1 := congrArg List.length hrs
          rw [List.length_append] at h1
          show _ ≤ _
          omega
        clear hrs hwd
        obtain ⟨qy, cy, ey⟩ := O.form (by omega)
        subst ey
        obtain ⟨qx, cx, ex⟩ := I.form
        subst ex
        by_cases c : done.length = m
        · cases rs with
          | nil =>
            have HE : Hid (∀ W v, SO 82 76 ek W w.heap.size v done → EnP W w.heap.size ((m : Int) :: r) (.returned (.tuple #[v, .bool true]))) := fun W v h =>
              .inl ⟨done, v, by unfold tailN; rw [HR.out, c, List.append_nil], by omega, HWd.out, rfl, h⟩
            have O' := O
            rw [c] at O' ⊢
            go_wp2_with fail
            rw [Exit.noGoto_ret]
            go_ret2
            exact ⟨HE.out _ _ O', hb⟩
          | cons z zs =>
            have HE : Hid (∀ W q n c, EnP W w.heap.size ((m : Int) :: r) (.returned (.tuple #[.slice q n c, .bool false]))) := fun W q n c' => .inr ⟨fun es _ _ h => by
                unfold tailN at h
                simp only [List.cons.injEq] at h
                have h1 : done.length ≤ es.length := by omega
                have h2 := ents_split done es (z :: zs) h1 (by rw [← HR.out]; exact h.2)
                rw [List.drop_of_length_le (by omega)] at h2
                simp at h2, _, _, _, rfl⟩
            rw [c]
            have hz : ((((z :: zs).length : Nat) : Int) == 0) = false := by simp; omega
            generalize (z :: zs).length = zl at *
            go_wp2_with fail
            rw [Exit.noGoto_ret]
            go_ret2
            exact ⟨HE.out _ _ _ _, hb⟩
        · have hkm : done.length < m := by omega
          have hki : (done.length : Int) < (m : Int) := by omega
          rcases entry_cases rs with hno | ⟨a, b, r2, ps, more, nx, h, hrs2, hps, hfh⟩
          · have HE : Hid (∀ W q n c, EnP W w.heap.size ((m : Int) :: r) (.returned (.tuple #[.slice q n c, .bool false]))) := fun W q n c' => .inr ⟨fun es _ hwe h => by
                unfold tailN at h
                simp only [List.cons.injEq] at h
                have h2 := ents_split done es rs (by omega) (by rw [← HR.out]; exact h.2)
                have hlt : done.length < es.length := by omega
                rw [List.drop_eq_getElem_cons hlt, List.flatMap_cons] at h2
                exact noE_nums hno (hwe _ (List.getElem_mem hlt)) _ h2, _, _, _, rfl⟩
            have HNo : Hid (NoE rs) := hno
            have hne : ((done.length : Int) == (m : Int)) = false := by simp; omega
            clear hno
            have I' : Hid (Is wr (.slice qx rs.length cx) rs) := I
            clear I
            generalize done.length = k at *
            go_wp2_with (first
              | (go_at_call 66; refine (entry_no _ _ _ I'.out HLs.out HNo.out).mono ?_; rintro e W2 ⟨ce, x, rfl, b2⟩)
              | (refine al_ent rfl rfl ?_; intro W3 e3 hE3 b3; clear e3)
              | (refine st_ent rfl rfl hE3 rfl rfl ?_; intro W4 hE4 C4))
            rw [Exit.noGoto_ret]
            go_ret2
            exact ⟨HE.out _ _ _ _, ab_chg (ab_trans (ab_trans hb b2) b3) C4 (by have := hb.size; have := b2.size; omega)⟩
          · subst hrs2
            have HWe := ent_wf HFs.out hps hfh
            have HBk : Hid (enN (mkE a b (cellOf r2 h)) ++ more = a :: b :: r2) := ent_back HFs.out hps hfh
            have HP : Hid (Parts r2 ps more) := hps
            have HFh : Hid (foldH ps = some (nx, h)) := hfh
            have HR2 : Hid (r = (done ++ [mkE a b (cellOf r2 h)]).flatMap enN ++ more) := by
              show _ = _
              rw [HR.out, List.flatMap_append, List.append_assoc]
              congr 1
              rw [← HBk.out]
              simp
            have HL2 : Hid (r2.length ≤ 20000) := by have := HLs.out; simp at this; show _ ≤ _; omega
            have I' : Hid (Is wr (.slice qx (a :: b :: r2).length cx) (a :: b :: r2)) := I
            have HWd2 : Hid (∀ x ∈ done ++ [mkE a b (cellOf r2 h)], WE x) := by
              intro x hx
              rcases List.mem_append.1 hx with hx | hx
              · exact HWd.out x hx
              · simp at hx; subst hx; exact HWe
            have O' : Hid (SO 82 76 ek wr w.heap.size (.slice qy done.length cy) done) := O
            have HK : Hid ((done ++ [mkE a b (cellOf r2 h)]).length = done.length + 1) := by show _ = _; simp
            have HD : Hid (done.length ≤ 16) := by show _ ≤ _; omega
            have HY : Hid (∀ W u, Is W u (a :: b :: r2) → Calls Try.prog 66 #[u] W fun e w' => ∃ x, e = .returned (.tuple #[.agg (EA (mkE a b (cellOf r2 h))), x, .bool true]) ∧ Io w' W.heap.size x more ∧ Below W.heap.size W w') := fun W u hu => entry_yes u a b r2 ps more nx h W hu HL2.out HP.out HFh.out
            clear I O hps hfh HWe
            generalize mkE a b (cellOf r2 h) = E at *
            generalize (a :: b :: r2).length = nx2 at *
            have hkk : Hid (done.length + 1 ≤ m) := by show _ ≤ _; omega
            generalize hdl : done.length = k at *
            have HDL : Hid (done.length = k) := hdl
            clear hdl
            go_wp2_with (first
              | (go_at_call 66; refine (HY.out _ _ I'.out).mono ?_; rintro e W2 ⟨x, rfl, hx2, b2⟩)
              | (refine al_ent rfl rfl ?_; intro W3 e3 hE3 b3; clear e3)
              | (refine st_ent rfl rfl hE3 rfl rfl ?_; intro W4 hE4 C4; have b4 := ab_chg b3 C4 (Nat.le_refl _))
              | (refine ld_ent rfl rfl (blk_range hE4) rfl ?_)
              | (refine bs_e1 rfl rfl E (by simp only [List.map_toArray, List.map_cons, List.map_nil]; rfl) ?_; intro W5 hN5 b5)
              | (at_builtin; refine app_s w rfl rfl (by omega) Try.underlying24 infoEnt rfl (((O'.out.keep b2).keep b4).keep b5) rfl (hN5.sr (by omega)) (by have := HD.out; have := HDL.out; show _ + 1 ≤ _; omega) (by have := HD.out; have := HDL.out; show (_ + 1) * 608 ≤ _; omega) (ab_trans (ab_trans (ab_trans hb b2) b4) b5) ?_; intro v6 W6 hown6 b6 hgr6))
            have hsep : Sep x (.slice qy k cy) := by
              intro j hj hj2
              have h1 := (hx2.lt j hj).1
              have h2 := (World.ownsRow.lt O'.out j hj2).2
              omega
            have hx6 : Io W6 wr.heap.size x more := Io.kept ((hx2.keep b4).keep b5) hgr6 hsep
            have hl6 : (done ++ [E]).length = k + 1 := HK.out
            refine ⟨⟨done ++ [E], more, by rw [hl6]; exact hkk.out, by rw [hl6]; rfl, HR2.out, HWd2.out, hx6.is, hown6, b6⟩, ?_⟩
            have := hkk.out
            simp only [intOf]
            omega
end Go.Proofs.Ytjbhicjnnghjjaa
namespace Go.Proofs.Ytjbhicjnnghjjaa
open Go.RowKit Go.Shelf
set_option linter.unusedVariables false

/-- Numbers of no note of at most 16 entries. -/
def NoN (l : List Int) : Prop := ∀ N : Nt, WN N → N.es.length ≤ 16 → numsN N ≠ l
theorem noN_of {N : Nt} {k f t : Int} {r : List Int} (h : numsN N = k :: f :: t :: r) : r = (N.ns.length : Int) :: (N.ns ++ midN N.os N.es) := by
  unfold numsN at h
  simp only [List.cons.injEq] at h
  exact h.2.2.2.symm
theorem noN_short {l : List Int} (h : l.length < 3) : NoN l := fun N _ _ e => by
  have := numsN_len N
  rw [e] at this
  omega
theorem noN_a (k f t : Int) : NoN [k, f, t] := fun N _ _ e => by have := noN_of e; simp at this
theorem noN_b {k f t c : Int} {r : List Int} (h : c < 0 ∨ ((r.length / 1 : Nat) : Int) < c) : NoN (k :: f :: t :: c :: r) := fun N _ _ e => by
  have := noN_of e
  simp only [List.cons.injEq] at this
  have h2 := congrArg List.length this.2
  rw [List.length_append] at h2
  rw [Nat.div_one] at h
  omega
theorem noN_m {N : Nt} {k f t : Int} {m : Nat} {r : List Int} (h : numsN N = k :: f :: t :: (m : Int) :: r) : r.drop m = midN N.os N.es := by
  have := noN_of h
  simp only [List.cons.injEq] at this
  have hm : m = N.ns.length := by omega
  rw [this.2, hm]
  exact List.drop_left
theorem noN_c {k f t : Int} {m : Nat} {r : List Int} (h : r.drop m = []) : NoN (k :: f :: t :: (m : Int) :: r) := fun N _ _ e => by
  have := noN_m e
  rw [h] at this
  simp [midN] at this
theorem noN_d {k f t c : Int} {m : Nat} {r r5 : List Int} (h : r.drop m = c :: r5) (hc : c < 0 ∨ ((r5.length / 5 : Nat) : Int) < c) : NoN (k :: f :: t :: (m : Int) :: r) := fun N _ _ e => by
  have := noN_m e
  rw [h] at this
  unfold midN at this
  simp only [List.cons.injEq] at this
  have h2 := congrArg List.length this.2
  rw [List.length_append, ops_bytes] at h2
  omega
theorem noN_e {k f t : Int} {m m2 : Nat} {r r5 : List Int} (h : r.drop m = (m2 : Int) :: r5) (he : ∀ es, es.length ≤ 16 → (∀ x ∈ es, WE x) → r5.drop (m2 * 5) ≠ tailN es) : NoN (k :: f :: t :: (m : Int) :: r) := fun N hN h16 e => by
  have := noN_m e
  rw [h] at this
  unfold midN at this
  simp only [List.cons.injEq] at this
  have hm : m2 = N.os.length := by omega
  refine he N.es h16 hN.es ?_
  rw [this.2, hm]
  exact List.drop_left' (by rw [ops_bytes]; omega)
theorem opsL_take (l : List Int) : ∀ m, 5 * m ≤ l.length → (opsL l m).flatMap opN = l.take (5 * m)
  | 0, _ => by simp [opsL]
  | m + 1, h => by
    have ih := opsL_take l m (by omega)
    have e1 : opsL l (m + 1) = opsL l m ++ [opAt l m] := by unfold opsL; rw [List.range_succ, List.map_append]; rfl
    have st : ∀ i, 5 * m + i < l.length → l.take (5 * m + i + 1) = l.take (5 * m + i) ++ [l.getD (5 * m + i) 0] := fun i hi => by
      rw [List.take_add_one, List.getD_eq_getElem?_getD, List.getElem?_eq_getElem hi]
      rfl
    have s0 := st 0 (by omega)
    have s1 := st 1 (by omega)
    have s2 := st 2 (by omega)
    have s3 := st 3 (by omega)
    have s4 := st 4 (by omega)
    rw [Nat.add_zero] at s0
    rw [e1, List.flatMap_append, ih, show 5 * (m + 1) = 5 * m + 4 + 1 by omega, s4, s3, s2, s1, s0]
    simp [opN, opAt]
theorem opsL_flat (m : Nat) (l : List Int) (h : l.length = 5 * m) : (opsL l m).flatMap opN = l := by
  rw [opsL_take l m (by omega), List.take_of_length_le (by omega)]
theorem yesN {k f t : Int} {m m2 : Nat} {r r5 : List Int} {es : List (Nat → Int)} (hm : m ≤ r.length) (h : r.drop m = (m2 : Int) :: r5) (h5 : m2 * 5 ≤ r5.length) (he : r5.drop (m2 * 5) = tailN es) : numsN ⟨k, f, t, r.take m, opsL (r5.take (m2 * 5)) m2, es⟩ = k :: f :: t :: (m : Int) :: r := by
  have e1 : (r.take m).length = m := by rw [List.length_take]; omega
  unfold numsN midN
  dsimp only
  rw [e1, opsL_len, opsL_flat m2 _ (by rw [List.length_take]; omega), ← he, List.take_append_drop, ← h, List.take_append_drop]
theorem yes_wf {k f t : Int} {m m2 : Nat} {r r5 : List Int} {es : List (Nat → Int)} (hf : In64 (k :: f :: t :: (m : Int) :: r)) (h : r.drop m = (m2 : Int) :: r5) (he : ∀ x ∈ es, WE x) : WN ⟨k, f, t, r.take m, opsL (r5.take (m2 * 5)) m2, es⟩ := by
  refine ⟨hf k (by simp), hf f (by simp), hf t (by simp), fun x hx => hf x (by have := List.mem_of_mem_take hx; simp [this]), fun o ho => ?_, he⟩
  obtain ⟨j, _, rfl⟩ := List.mem_map.1 ho
  intro i _
  unfold opAt
  by_cases c : 5 * j + i < (r5.take (m2 * 5)).length
  · rw [List.getD_eq_getElem?_getD, List.getElem?_eq_getElem c]
    have h1 := List.mem_of_mem_take (List.getElem_mem c)
    have h2 : (r5.take (m2 * 5))[5 * j + i] ∈ r := List.mem_of_mem_drop (i := m) (by rw [h]; exact List.mem_cons_of_mem _ h1)
    exact hf _ (List.mem_cons_of_mem _ (List.mem_cons_of_mem _ (List.mem_cons_of_mem _ (List.mem_cons_of_mem _ h2))))
  · rw [List.getD_eq_getElem?_getD, List.getElem?_eq_none (by omega)]
    exact ⟨by simp, by simp⟩

theorem io_nil (W : World) (base : Nat) : Io W base (.slice none 0 0) [] := World.ownsRow_nil W _ _ _
theorem so_chg {e : TypeId} {k : Nat} {ks : Nat → IntKind} {W W' : World} {base b : Nat} {v : Value} {l : List (Nat → Int)} (h : SO e k ks W base v l) (hc : Chg b W W') (hb : b < base) : SO e k ks W' base v l := by
  refine ⟨h.1, ?_⟩
  rcases h.2 with h2 | ⟨g, cap, cur, h1, h2, hg, h3⟩
  · exact .inl h2
  · exact .inr ⟨g, cap, cur, h1, h2, Blk.chg hg hc (by omega), h3⟩
theorem entries_all (v : Value) (l : List Int) (w : World) (hv : Is w v l) (hf : In64 l) (hl : l.length ≤ 20000) :
    Calls Try.prog 61 #[v] w fun e w' => EnP w' w.heap.size l e ∧ Below w.heap.size w w' := by
  cases l with
  | nil =>
    obtain ⟨q, cap, e⟩ := hv.form
    subst e
    exact entries_short q cap w
  | cons c r => exact entries_any v c r w hv hf (by simp at hl; omega)
/-- What read answers. -/
def RdP (W : World) (base : Nat) (l : List Int) (e : Ending) : Prop :=
  (∃ N vn vo ve, numsN N = l ∧ WN N ∧ N.es.length ≤ 16 ∧ e = .returned (.tuple #[ntV N vn vo ve, .bool true]) ∧ Io W base vn N.ns ∧ SO 73 5 k64 W base vo N.os ∧ SO 82 76 ek W base ve N.es) ∨
  (NoN l ∧ ∃ k f t q1 n1 c1 q2 n2 c2 q3 n3 c3, e = .returned (.tuple #[.agg #[.int .i64 k, .int .i64 f, .int .i64 t, .slice q1 n1 c1, .slice q2 n2 c2, .slice q3 n3 c3], .bool false]))
theorem rd_zero (W : World) (base : Nat) (l : List Int) (h : NoN l) : RdP W base l (.returned (.tuple #[.agg #[.int .i64 0, .int .i64 0, .int .i64 0, .slice none 0 0, .slice none 0 0, .slice none 0 0], .bool false])) := .inr ⟨h, _, _, _, _, _, _, _, _, _, _, _, _, rfl⟩
theorem info_note (a b c d e f : Value) : (Try.prog.info? 26).map (·.size) = some (#[a, b, c, d, e, f]).size := by kernel_rfl

/-- A note's block, written over. -/
theorem blk_six {W : World} {b : Nat} {a0 a1 a2 a3 a4 a5 : Value} {t : TypeId} (h : Blk W b #[a0, a1, a2, a3, a4, a5] t) (b0 b1 b2 b3 b4 b5 : Value) :
    Blk ((((((W.setCell ⟨b, 0, none⟩ b0).setCell ⟨b, 1, none⟩ b1).setCell ⟨b, 2, none⟩ b2).setCell ⟨b, 3, none⟩ b3).setCell ⟨b, 4, none⟩ b4).setCell ⟨b, 5, none⟩ b5) b #[b0, b1, b2, b3, b4, b5] t ∧
    Chg b W ((((((W.setCell ⟨b, 0, none⟩ b0).setCell ⟨b, 1, none⟩ b1).setCell ⟨b, 2, none⟩ b2).setCell ⟨b, 3, none⟩ b3).setCell ⟨b, 4, none⟩ b4).setCell ⟨b, 5, none⟩ b5) :=
  ⟨(((((h.set 0 b0).set 1 b1).set 2 b2).set 3 b3).set 4 b4).set 5 b5, (((((chg_set _ _ _ _).trans (chg_set _ _ _ _)).trans (chg_set _ _ _ _)).trans (chg_set _ _ _ _)).trans (chg_set _ _ _ _)).trans (chg_set _ _ _ _)⟩
structure Six (W : World) (b : Nat) (a0 a1 a2 a3 a4 a5 : Value) : Prop where
  c0 : W.cell? ⟨b, 0, none⟩ = some a0
  c1 : W.cell? ⟨b, 1, none⟩ = some a1
  c2 : W.cell? ⟨b, 2, none⟩ = some a2
  c3 : W.cell? ⟨b, 3, none⟩ = some a3
  c4 : W.cell? ⟨b, 4, none⟩ = some a4
  c5 : W.cell? ⟨b, 5, none⟩ = some a5
  f0 : W.frozen? ⟨b, 0, none⟩ = false
  f1 : W.frozen? ⟨b, 1, none⟩ = false
  f2 : W.frozen? ⟨b, 2, none⟩ = false
  f3 : W.frozen? ⟨b, 3, none⟩ = false
  f4 : W.frozen? ⟨b, 4, none⟩ = false
  f5 : W.frozen? ⟨b, 5, none⟩ = false
theorem six {W : World} {b : Nat} {a0 a1 a2 a3 a4 a5 : Value} {t : TypeId} (h : Blk W b #[a0, a1, a2, a3, a4, a5] t) : Six W b a0 a1 a2 a3 a4 a5 :=
  ⟨h.at rfl, h.at rfl, h.at rfl, h.at rfl, h.at rfl, h.at rfl, h.frozen 0, h.frozen 1, h.frozen 2, h.frozen 3, h.frozen 4, h.frozen 5⟩
set_option maxHeartbeats 1000000 in
set_option maxRecDepth 100000 in
theorem nread_short (v : Value) (l : List Int) (w : World) (hv : Is w v l) (h : l.length < 3) :
    Calls Try.prog 38 #[v] w fun e w' => RdP w' w.heap.size l e ∧ Below w.heap.size w w' := by
  obtain ⟨q, cap, e⟩ := hv.form
  subst e
  have HE : Hid (∀ W, RdP W w.heap.size l (.returned (.tuple #[.agg #[.int .i64 0, .int .i64 0, .int .i64 0, .slice none 0 0, .slice none 0 0, .slice none 0 0], .bool false]))) := fun W => rd_zero W _ l (noN_short h)
  have h' : (l.length : Int) < 3 := by omega
  generalize l.length = n at *
  go_enter Try.func38, Try.ntmps38
  go_wp2_with fail
  exact bodyPost_ret (results_c2 rfl _ _ _ 26 _ (0, 0) _ _ rfl rfl ((Blk.new w _ _).alloc _) Try.underlying26 rfl (info_note _ _ _ _ _ _)) rfl ⟨HE.out _, ab_alloc (ab_alloc (Below.refl _ _) _) _⟩
set_option maxHeartbeats 1000000 in
set_option maxRecDepth 100000 in
theorem nread_any (v : Value) (k f t : Int) (r3 : List Int) (w : World) (hv : Is w v (k :: f :: t :: r3)) (hf : In64 (k :: f :: t :: r3)) (hl : r3.length ≤ 19000) :
    Calls Try.prog 38 #[v] w fun e w' => RdP w' w.heap.size (k :: f :: t :: r3) e ∧ Below w.heap.size w w' := by
  obtain ⟨q, cap, e⟩ := hv.form
  subst e
  have hlen := hv.len
  obtain ⟨g, off, rfl, hg, hr⟩ := hv.at (by simp)
  have c0 := hr 0 k rfl
  have c1 := hr 1 f rfl
  have c2 := hr 2 t rfl
  rw [Nat.add_zero] at c0
  have hn3 : 3 ≤ (k :: f :: t :: r3).length := by simp
  have HL3 : Hid ((k :: f :: t :: r3).length = r3.length + 3) := rfl
  generalize hN : (k :: f :: t :: r3).length = n at *
  have hn3' : (3 : Int) ≤ (n : Int) := by omega
  have hA := ab_alloc (ab_alloc (Below.refl w.heap.size w) (.cells #[.int .i64 0, .int .i64 0, .int .i64 0, .slice none 0 0, .slice none 0 0, .slice none 0 0] 26)) (.cells #[.int .i64 0, .int .i64 0, .int .i64 0, .slice none 0 0, .slice none 0 0, .slice none 0 0] 26)
  have c0' := (hA.cell (p := ⟨g, off, none⟩) hg).trans c0
  have c1' := (hA.cell (p := ⟨g, off + 1, none⟩) hg).trans c1
  have c2' := (hA.cell (p := ⟨g, off + 2, none⟩) hg).trans c2
  clear hr
  have k0 : 0 < n := by omega
  have k1 : 1 < n := by omega
  have k2 : 2 < n := by omega
  have m1 : (1 : Int) < (n : Int) := by omega
  have m2 : (2 : Int) < (n : Int) := by omega
  go_enter Try.func38, Try.ntmps38
  go_upto_region 4 with fail
  go_region
  have hR := ((Blk.new w #[.int .i64 0, .int .i64 0, .int .i64 0, .slice none 0 0, .slice none 0 0, .slice none 0 0] 26).alloc (.cells #[.int .i64 k, .int .i64 f, .int .i64 t, .slice none 0 0, .slice none 0 0, .slice none 0 0] 26)).drew
  have hB := (Blk.new (w.alloc (.cells #[.int .i64 0, .int .i64 0, .int .i64 0, .slice none 0 0, .slice none 0 0, .slice none 0 0] 26)) #[.int .i64 k, .int .i64 f, .int .i64 t, .slice none 0 0, .slice none 0 0, .slice none 0 0] 26).drew
  rw [show (w.alloc (.cells #[.int .i64 0, .int .i64 0, .int .i64 0, .slice none 0 0, .slice none 0 0, .slice none 0 0] 26)).heap.size = w.heap.size + 1 by simp] at hB
  have hw := ab_drew (ab_alloc (ab_alloc (Below.refl w.heap.size w) (.cells #[.int .i64 0, .int .i64 0, .int .i64 0, .slice none 0 0, .slice none 0 0, .slice none 0 0] 26)) (.cells #[.int .i64 k, .int .i64 f, .int .i64 t, .slice none 0 0, .slice none 0 0, .slice none 0 0] 26))
  clear c0 c1 c2 c0' c1' c2' hA
  generalize ((w.alloc (.cells #[.int .i64 0, .int .i64 0, .int .i64 0, .slice none 0 0, .slice none 0 0, .slice none 0 0] 26)).alloc (.cells #[.int .i64 k, .int .i64 f, .int .i64 t, .slice none 0 0, .slice none 0 0, .slice none 0 0] 26)).drew = V at *
  have H12 : Hid (w.heap.size < w.heap.size + 1) := by show _ < _; omega
  generalize w.heap.size + 1 = B4 at *
  cases r3 with
  | nil =>
    have HE : Hid (∀ W, RdP W w.heap.size [k, f, t] (.returned (.tuple #[.agg #[.int .i64 0, .int .i64 0, .int .i64 0, .slice none 0 0, .slice none 0 0, .slice none 0 0], .bool false]))) := fun W => rd_zero W _ _ (noN_a k f t)
    go_wp2_with (first
      | (refine sli_l w rfl rfl 3 rfl rfl rfl hn3 hv ?_; intro q3 i3)
      | (go_at_call 59; refine (counted_nil _ _ _ w i3).mono ?_; rintro e W2 ⟨rfl, b2⟩; obtain ⟨y0, y1, y2, y3, y4, y5, f0, f1, f2, f3, f4, f5⟩ := six (hR.keep b2)))
    obtain ⟨hR3, C3⟩ := blk_six (hR.keep b2) (.int .i64 0) (.int .i64 0) (.int .i64 0) (.slice none 0 0) (.slice none 0 0) (.slice none 0 0)
    exact bodyPost_ret (results_c2 rfl _ _ _ 26 _ (0, 0) _ _ rfl rfl hR3 Try.underlying26 rfl (info_note _ _ _ _ _ _)) rfl ⟨HE.out _, ab_chg (ab_trans hw b2) C3 (Nat.le_refl _)⟩
  | cons c r4 =>
    have hcF : Fit c := hf c (by simp)
    have hl4 : r4.length ≤ 1000000 := by simp at hl; omega
    have HCt := fun W u (hb : Below w.heap.size w W) (h : Is w u (c :: r4)) => counted_any w u c r4 1 W hb h (.inl rfl) hcF hl4
    by_cases hbad : c < 0 ∨ ((r4.length / 1 : Nat) : Int) < c
    · have HE : Hid (∀ W, RdP W w.heap.size (k :: f :: t :: c :: r4) (.returned (.tuple #[.agg #[.int .i64 0, .int .i64 0, .int .i64 0, .slice none 0 0, .slice none 0 0, .slice none 0 0], .bool false]))) := fun W => rd_zero W _ _ (noN_b hbad)
      have HBd : Hid (c < 0 ∨ ((r4.length / 1 : Nat) : Int) < c) := hbad
      have HCt' : Hid (∀ W u, Below w.heap.size w W → Is w u (c :: r4) → Calls Try.prog 59 #[u, .int .i64 1] W fun e w' => CtP w c 1 r4 e ∧ Below W.heap.size W w') := HCt
      clear HCt hbad
      go_wp2_with (first
        | (refine sli_l w rfl rfl 3 rfl rfl rfl hn3 hv ?_; intro q3 i3)
        | (go_at_call 59; refine (HCt'.out _ _ hw i3).mono ?_; rintro e W2 ⟨hct, b2⟩; obtain rfl := hct.1 HBd.out; clear hct; obtain ⟨y0, y1, y2, y3, y4, y5, f0, f1, f2, f3, f4, f5⟩ := six (hR.keep b2)))
      obtain ⟨hR3, C3⟩ := blk_six (hR.keep b2) (.int .i64 0) (.int .i64 0) (.int .i64 0) (.slice none 0 0) (.slice none 0 0) (.slice none 0 0)
      exact bodyPost_ret (results_c2 rfl _ _ _ 26 _ (0, 0) _ _ rfl rfl hR3 Try.underlying26 rfl (info_note _ _ _ _ _ _)) rfl ⟨HE.out _, ab_chg (ab_trans hw b2) C3 (Nat.le_refl _)⟩
    · obtain ⟨m, rfl⟩ : ∃ m : Nat, c = (m : Int) := ⟨c.toNat, by omega⟩
      have hm4 : m ≤ r4.length / 1 := by omega
      have hm4' : m ≤ r4.length := by rw [Nat.div_one] at hm4; exact hm4
      have HCt' : Hid (∀ W u, Below w.heap.size w W → Is w u ((m : Int) :: r4) → Calls Try.prog 59 #[u, .int .i64 1] W fun e w' => (∃ v1 v2, e = .returned (.tuple #[v1, v2, .bool true]) ∧ Is w v1 (r4.take m) ∧ Is w v2 (r4.drop m)) ∧ Below W.heap.size W w') := fun W u hb h =>
        (HCt W u hb h).mono fun e w' ⟨h1, h2⟩ => by
          have := h1.2 m rfl hm4
          rw [Nat.mul_one] at this
          exact ⟨this, h2⟩
      have HTl : Hid ((r4.take m).length ≤ 1000000) := by show _ ≤ _; rw [List.length_take]; omega
      clear HCt hbad hcF
      go_upto_region 8 with (first
        | (refine sli_l w rfl rfl 3 rfl rfl rfl hn3 hv ?_; intro q3 i3)
        | (go_at_call 59; refine (HCt'.out _ _ hw i3).mono ?_; rintro e W2 ⟨⟨v1, v2, rfl, I1, I2⟩, b2⟩; obtain ⟨qa, ca, ea⟩ := I1.form; subst ea; obtain ⟨qb, cb, eb⟩ := I2.form; subst eb))
      have hB2 := hB.keep b2
      have hR2 := hR.keep b2
      have hw2 := ab_trans hw b2
      have hz2 : B4 < W2.heap.size := hB2.lt
      clear hB hR hw b2 i3 HCt'
      refine wp_region_lit ?_
      refine valS rfl (.slice qa (r4.take m).length ca) (by first | rfl | (go_simp; try rfl)) ?_
      simp only [Act.put, List.setIfInBounds_toArray, List.set_cons_succ, List.set_cons_zero]
      refine app_i W2 rfl rfl rfl (io_nil _ _) rfl (I1.keep hw2) rfl (by have := HTl.out; simp only [List.length_nil]; omega) (Below.refl _ _) ?_
      intro vn W3 hown3 hnil3 b3 hgr3 hat3
      have On : Io W3 W2.heap.size vn (r4.take m) := io_of hown3
      have hml : (r4.take m).length = m := by rw [List.length_take]; omega
      obtain ⟨qn, cn, en⟩ := On.form
      rw [hml] at en
      subst en
      have hB3 := hB2.keep b3
      have x3 : W3.cell? ⟨B4, 3, none⟩ = some (.slice none 0 0) := hB3.at rfl
      have y3 := hB3.frozen 3
      have C3 := chg_set W3 B4 3 (.slice qn m cn)
      have hB3' : Blk _ B4 #[.int .i64 k, .int .i64 f, .int .i64 t, .slice qn m cn, .slice none 0 0, .slice none 0 0] 26 := hB3.set 3 (.slice qn m cn)
      have hne : w.heap.size ≠ B4 := by have := H12.out; omega
      have hR3 := (hR2.keep b3).chg C3 hne
      have hw3 := ab_chg (ab_trans hw2 b3) C3 (by have := H12.out; omega)
      have On3 := io_chg On C3 hz2
      clear hown3 hnil3 hgr3 hat3 hB2 hR2 hw2 On I1 hB3 C3 b3
      rw [List.length_drop] at I2
      have HL4 : Hid (r4.length ≤ 19000) := by show _ ≤ _; simp at hl; omega
      have HDl : Hid ((r4.drop m).length = r4.length - m) := List.length_drop
      have HF4 : Hid (In64 (r4.drop m)) := fun x hx => hf x (by have := List.mem_of_mem_drop hx; simp [this])
      clear hml
      go_wp2_with fail
      clear x3 y3
      generalize hrm : r4.drop m = rm at *
      generalize W3.setCell ⟨B4, 3, none⟩ (.slice qn m cn) = W3' at *
      cases rm with
      | nil =>
        have HE : Hid (∀ W, RdP W w.heap.size (k :: f :: t :: (m : Int) :: r4) (.returned (.tuple #[.agg #[.int .i64 0, .int .i64 0, .int .i64 0, .slice none 0 0, .slice none 0 0, .slice none 0 0], .bool false]))) := fun W => rd_zero W _ _ (noN_c hrm)
        refine (counted_nil _ _ _ w I2).mono ?_
        rintro e W5 ⟨rfl, b5⟩
        obtain ⟨y0, y1, y2, y3, y4, y5, f0, f1, f2, f3, f4, f5⟩ := six (hR3.keep b5)
        go_wp2_with fail
        obtain ⟨hR6, C6⟩ := blk_six (hR3.keep b5) (.int .i64 0) (.int .i64 0) (.int .i64 0) (.slice none 0 0) (.slice none 0 0) (.slice none 0 0)
        exact bodyPost_ret (results_c2 rfl _ _ _ 26 _ (0, 0) _ _ rfl rfl hR6 Try.underlying26 rfl (info_note _ _ _ _ _ _)) rfl ⟨HE.out _, ab_chg (ab_trans hw3 b5) C6 (Nat.le_refl _)⟩
      | cons c2 r5 =>
        have hc2 : Fit c2 := HF4.out c2 (by simp)
        have hl5 : r5.length ≤ 19000 := by have h1 := HDl.out; have h2 := HL4.out; rw [List.length_cons] at h1; omega
        refine (counted_any w _ c2 r5 5 W3' hw3 I2 (.inr rfl) hc2 (by omega)).mono ?_
        rintro e W5 ⟨hct, b5⟩
        by_cases hbad : c2 < 0 ∨ ((r5.length / 5 : Nat) : Int) < c2
        · have HE : Hid (∀ W, RdP W w.heap.size (k :: f :: t :: (m : Int) :: r4) (.returned (.tuple #[.agg #[.int .i64 0, .int .i64 0, .int .i64 0, .slice none 0 0, .slice none 0 0, .slice none 0 0], .bool false]))) := fun W => rd_zero W _ _ (noN_d hrm hbad)
          obtain rfl := hct.1 hbad
          clear hct
          obtain ⟨y0, y1, y2, y3, y4, y5, f0, f1, f2, f3, f4, f5⟩ := six (hR3.keep b5)
          go_wp2_with fail
          obtain ⟨hR6, C6⟩ := blk_six (hR3.keep b5) (.int .i64 0) (.int .i64 0) (.int .i64 0) (.slice none 0 0) (.slice none 0 0) (.slice none 0 0)
          exact bodyPost_ret (results_c2 rfl _ _ _ 26 _ (0, 0) _ _ rfl rfl hR6 Try.underlying26 rfl (info_note _ _ _ _ _ _)) rfl ⟨HE.out _, ab_chg (ab_trans hw3 b5) C6 (Nat.le_refl _)⟩
        · obtain ⟨m2, rfl⟩ : ∃ m2 : Nat, c2 = (m2 : Int) := ⟨c2.toNat, by omega⟩
          obtain ⟨v3, v4, rfl, I3, I4⟩ := hct.2 m2 rfl (by omega)
          have hm5 : m2 * 5 ≤ r5.length := by omega
          have e3 : (r5.take (m2 * 5)).length = 5 * m2 := by rw [List.length_take]; omega
          have e4 : (r5.drop (m2 * 5)).length ≤ 20000 := by rw [List.length_drop]; omega
          have f4 : In64 (r5.drop (m2 * 5)) := fun x hx => HF4.out x (List.mem_cons_of_mem _ (List.mem_of_mem_drop hx))
          have HY : Hid (∀ es, r5.drop (m2 * 5) = tailN es → (∀ x ∈ es, WE x) → numsN ⟨k, f, t, r4.take m, opsL (r5.take (m2 * 5)) m2, es⟩ = k :: f :: t :: (m : Int) :: r4 ∧ WN ⟨k, f, t, r4.take m, opsL (r5.take (m2 * 5)) m2, es⟩) := fun es he hw => ⟨yesN hm4' hrm hm5 he, yes_wf hf hrm hw⟩
          have HNo : Hid ((∀ es, es.length ≤ 16 → (∀ x ∈ es, WE x) → r5.drop (m2 * 5) ≠ tailN es) → NoN (k :: f :: t :: (m : Int) :: r4)) := fun h => noN_e hrm h
          have E4 : Hid ((r5.drop (m2 * 5)).length ≤ 20000) := e4
          have F4 : Hid (In64 (r5.drop (m2 * 5))) := f4
          have E3 : Hid ((r5.take (m2 * 5)).length = 5 * m2) := e3
          have M2 : Hid (m2 ≤ 1000000) := by show _ ≤ _; omega
          obtain ⟨qa3, ca3, ea3⟩ := I3.form
          subst ea3
          obtain ⟨qb4, cb4, eb4⟩ := I4.form
          subst eb4
          have hB5 := hB3'.keep b5
          have hR5 := hR3.keep b5
          have hw5 := ab_trans hw3 b5
          have On5 := On3.keep b5
          clear hct hbad hc2 e3 e4 f4 hB3' hR3 hw3 On3 b5 hf hl hv HL4 HDl HF4 hrm hl5 hm5 I2
          generalize hL3 : r5.take (m2 * 5) = l3 at *
          generalize hL4 : r5.drop (m2 * 5) = l4 at *
          clear hL3 hL4
          go_wp2_with (go_at_call 60; refine (opsOf_any _ l3 m2 _ (I3.keep hw5) E3.out M2.out).mono ?_; rintro e W6 ⟨vo, rfl, Oo, b6⟩; obtain ⟨qo, co, eo⟩ := Oo.form (by omega); subst eo; have x4 : W6.cell? ⟨B4, 4, none⟩ = some (.slice none 0 0) := (hB5.keep b6).at rfl; have y4 := (hB5.keep b6).frozen 4)
          have hz5 : B4 < W5.heap.size := hB5.lt
          have C6 := chg_set W6 B4 4 (.slice qo (opsL l3 m2).length co)
          have hB6 : Blk _ B4 #[.int .i64 k, .int .i64 f, .int .i64 t, .slice qn m cn, .slice qo (opsL l3 m2).length co, .slice none 0 0] 26 := (hB5.keep b6).set 4 (.slice qo (opsL l3 m2).length co)
          have hR6 := (hR5.keep b6).chg C6 hne
          have hw6 := ab_chg (ab_trans hw5 b6) C6 (by have := H12.out; omega)
          have On6 := io_chg (On5.keep b6) C6 hz2
          have Oo6 := so_chg Oo C6 hz5
          clear hB5 hR5 hw5 On5 Oo C6 b6 x4 y4
          generalize W6.setCell ⟨B4, 4, none⟩ (.slice qo (opsL l3 m2).length co) = V6 at *
          have hz6 : B4 < V6.heap.size := hB6.lt
          refine (entries_all _ l4 _ (I4.keep hw6) F4.out E4.out).mono ?_
          rintro e W7 ⟨hen, b7⟩
          rcases hen with ⟨es, ve, he, h16, hwe, rfl, Oe⟩ | ⟨hno, q9, n9, c9, rfl⟩
          · have HYe := HY.out es he hwe
            have HE : Hid (∀ W vn vo ve, Io W w.heap.size vn (r4.take m) → SO 73 5 k64 W w.heap.size vo (opsL l3 m2) → SO 82 76 ek W w.heap.size ve es → RdP W w.heap.size (k :: f :: t :: (m : Int) :: r4) (.returned (.tuple #[.agg #[.int .i64 k, .int .i64 f, .int .i64 t, vn, vo, ve], .bool true]))) := fun W vn vo ve h1 h2 h3 => .inl ⟨_, vn, vo, ve, HYe.1, HYe.2, h16, rfl, h1, h2, h3⟩
            obtain ⟨qe, ce, ee⟩ := Oe.form (by omega)
            subst ee
            have hB7 := hB6.keep b7
            have hR7 := hR6.keep b7
            have C8 := chg_set W7 B4 5 (.slice qe es.length ce)
            have hB8 : Blk _ B4 #[.int .i64 k, .int .i64 f, .int .i64 t, .slice qn m cn, .slice qo (opsL l3 m2).length co, .slice qe es.length ce] 26 := hB7.set 5 (.slice qe es.length ce)
            have hR8 := hR7.chg C8 hne
            have hw8 := ab_chg (ab_trans hw6 b7) C8 (by have := H12.out; omega)
            have On8 := io_chg (On6.keep b7) C8 hz2
            have Oo8 := so_chg (Oo6.keep b7) C8 hz5
            have Oe8 := so_chg Oe C8 hz6
            have x5 : W7.cell? ⟨B4, 5, none⟩ = some (.slice none 0 0) := hB7.at rfl
            have y5 := hB7.frozen 5
            obtain ⟨y0, y1, y2, y3, y4, y5', f0, f1, f2, f3, f4, f5⟩ := six hR8
            have p0 := hB8.at (i := 0) rfl
            have p1 := hB8.at (i := 1) rfl
            have p2 := hB8.at (i := 2) rfl
            have p3 := hB8.at (i := 3) rfl
            have p4 := hB8.at (i := 4) rfl
            have p5 := hB8.at (i := 5) rfl
            obtain ⟨hR9, C9⟩ := blk_six hR8 (.int .i64 k) (.int .i64 f) (.int .i64 t) (.slice qn m cn) (.slice qo (opsL l3 m2).length co) (.slice qe es.length ce)
            have h12 := H12.out
            have On9 := (io_chg On8 C9 (by omega)).less (base' := w.heap.size) (by omega)
            have Oo9 := (so_chg Oo8 C9 (by omega)).less (base' := w.heap.size) (by omega)
            have Oe9 := (so_chg Oe8 C9 (by omega)).less (base' := w.heap.size) (by omega)
            have hw9 := ab_chg hw8 C9 (Nat.le_refl _)
            clear hB7 hR7 C8 hB8 On8 Oo8 Oe8 C9 Oe Oo6 On6 hB6 hR6 HYe he hwe
            go_wp2_with fail
            exact bodyPost_ret (results_c2 rfl _ _ _ 26 _ (0, 0) _ (.bool true) rfl rfl hR9 Try.underlying26 rfl (info_note _ _ _ _ _ _)) rfl ⟨HE.out _ _ _ _ On9 Oo9 Oe9, hw9⟩
          · have HE : Hid (∀ W vn vo ve a1 a2 a3 a4 a5 a6, RdP W w.heap.size (k :: f :: t :: (m : Int) :: r4) (.returned (.tuple #[.agg #[.int .i64 k, .int .i64 f, .int .i64 t, .slice vn a1 a2, .slice vo a3 a4, .slice ve a5 a6], .bool false]))) := fun W vn vo ve a1 a2 a3 a4 a5 a6 => .inr ⟨HNo.out hno, _, _, _, _, _, _, _, _, _, _, _, _, rfl⟩
            have hB7 := hB6.keep b7
            have hR7 := hR6.keep b7
            have C8 := chg_set W7 B4 5 (.slice q9 n9 c9)
            have hB8 : Blk _ B4 #[.int .i64 k, .int .i64 f, .int .i64 t, .slice qn m cn, .slice qo (opsL l3 m2).length co, .slice q9 n9 c9] 26 := hB7.set 5 (.slice q9 n9 c9)
            have hR8 := hR7.chg C8 hne
            have hw8 := ab_chg (ab_trans hw6 b7) C8 (by have := H12.out; omega)
            have x5 : W7.cell? ⟨B4, 5, none⟩ = some (.slice none 0 0) := hB7.at rfl
            have y5 := hB7.frozen 5
            obtain ⟨y0, y1, y2, y3, y4, y5', f0, f1, f2, f3, f4, f5⟩ := six hR8
            have p0 := hB8.at (i := 0) rfl
            have p1 := hB8.at (i := 1) rfl
            have p2 := hB8.at (i := 2) rfl
            have p3 := hB8.at (i := 3) rfl
            have p4 := hB8.at (i := 4) rfl
            have p5 := hB8.at (i := 5) rfl
            obtain ⟨hR9, C9⟩ := blk_six hR8 (.int .i64 k) (.int .i64 f) (.int .i64 t) (.slice qn m cn) (.slice qo (opsL l3 m2).length co) (.slice q9 n9 c9)
            have hw9 := ab_chg hw8 C9 (Nat.le_refl _)
            clear hB7 hR7 C8 hB8 C9 Oo6 On6 hB6 hR6 hno
            go_wp2_with fail
            exact bodyPost_ret (results_c2 rfl _ _ _ 26 _ (0, 0) _ (.bool false) rfl rfl hR9 Try.underlying26 rfl (info_note _ _ _ _ _ _)) rfl ⟨HE.out _ _ _ _ _ _ _ _ _ _, hw9⟩
end Go.Proofs.Ytjbhicjnnghjjaa
