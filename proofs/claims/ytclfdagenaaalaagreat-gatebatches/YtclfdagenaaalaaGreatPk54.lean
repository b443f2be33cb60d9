/-
  The document's List of layer 16: the cells of a lane ahead of a place, by rising places.
  The document's Next of layer 17, beside the program's.
  The document's Next of layer 17, where there is a batch.
  Which batch comes next: estuarylaw17.GateBatches returns true for every input; no condition.
-/
import Derived.Test.YtclfdagenaaalaaGreatPk51
import Derived.Test.YtclfdagenaaalaaGreatPk52
import Derived.Test.YtclfdagenaaalaaGreatPk42
import Derived.Test.YtclfdagenaaalaaGreatPk53
import Derived.Test.YtclfdagenaaalaaGreatPk47
import Derived.Test.YtclfdagenaaalaaGreatPk10
import Derived.ProofKit
import Derived.OpenShut
import Derived.ChangeOld
import Derived.Below
namespace Go.Proofs.YtclfdagenaaalaaGreat
open Go.RowKit Go.Shelf
set_option linter.unusedVariables false
set_option maxRecDepth 100000

theorem pl_t {a b c d : Int} : pl a b c d = true ↔ (a < c ∨ (a = c ∧ b < d)) := by unfold pl; exact decide_eq_true_iff
theorem pl_f {a b c d : Int} : pl a b c d = false ↔ ¬ (a < c ∨ (a = c ∧ b < d)) := by unfold pl; exact decide_eq_false_iff_not
/-- May it come next? -/
def cnd (lane : Int) (pt la : Int × Int) (m : Nat) (k : Kyy) : Bool := decide (k.1 = lane) && (pl k.2.1 k.2.2 pt.1 pt.2 && (decide (m = 0) || pl la.1 la.2 k.2.1 k.2.2))
def upB1 (L : List Kyy) (k : Kyy) (x : Option Nat) : Bool := match x with | none => true | some b => match L[b]? with | some c => pl k.2.1 k.2.2 c.2.1 c.2.2 | none => false
/-- The least one so far. -/
def bsF (f : Kyy → Bool) (L : List Kyy) : Nat → Option Nat
  | 0 => none
  | j + 1 => match L[j]? with | none => bsF f L j | some k => if (f k && upB1 L k (bsF f L j)) = true then some j else bsF f L j
theorem bsF_succ {f : Kyy → Bool} {L : List Kyy} {j : Nat} {k : Kyy} (h : L[j]? = some k) : bsF f L (j + 1) = if (f k && upB1 L k (bsF f L j)) = true then some j else bsF f L j := by
  show (match L[j]? with | none => bsF f L j | some k => if (f k && upB1 L k (bsF f L j)) = true then some j else bsF f L j) = _
  rw [h]
theorem bsF_spec (f : Kyy → Bool) (L : List Kyy) : ∀ j, j ≤ L.length → (bsF f L j = none → ∀ i k, i < j → L[i]? = some k → f k = false) ∧ (∀ b, bsF f L j = some b → b < j ∧ ∃ c, L[b]? = some c ∧ f c = true ∧ ∀ i k, i < j → L[i]? = some k → f k = true → pl k.2.1 k.2.2 c.2.1 c.2.2 = false)
  | 0, _ => ⟨fun _ i k h => absurd h (by omega), fun b h => (by cases h)⟩
  | j + 1, hj => by
    obtain ⟨k, hk⟩ : ∃ k, L[j]? = some k := ⟨L[j], List.getElem?_eq_getElem (by omega)⟩
    obtain ⟨ih1, ih2⟩ := bsF_spec f L j (by omega)
    rw [bsF_succ hk]
    cases hx : bsF f L j with
    | none =>
      have ih := ih1 hx
      by_cases c : f k = true
      · rw [if_pos (by rw [c]; rfl)]
        refine ⟨fun e => (by cases e), fun b hb => ?_⟩
        injection hb with hb
        subst hb
        refine ⟨by omega, k, hk, c, fun i y hi hy hf => ?_⟩
        by_cases e : i = j
        · subst e
          rw [hk] at hy
          injection hy with hy
          subst hy
          exact pl_f.2 (by omega)
        · rw [ih i y (by omega) hy] at hf
          cases hf
      · have c' : f k = false := by simpa using c
        rw [if_neg (by rw [c']; simp)]
        refine ⟨fun _ i y hi hy => ?_, fun b hb => (by cases hb)⟩
        by_cases e : i = j
        · subst e
          rw [hk] at hy
          injection hy with hy
          rw [← hy]; exact c'
        · exact ih i y (by omega) hy
    | some b0 =>
      obtain ⟨hb0, c, hc, hfc, hmin⟩ := ih2 b0 hx
      have hup : upB1 L k (some b0) = pl k.2.1 k.2.2 c.2.1 c.2.2 := by unfold upB1; simp only [hc]
      rw [hup]
      by_cases cc : (f k && pl k.2.1 k.2.2 c.2.1 c.2.2) = true
      · rw [if_pos cc]
        rw [Bool.and_eq_true] at cc
        refine ⟨fun e => (by cases e), fun b hb => ?_⟩
        injection hb with hb
        subst hb
        refine ⟨by omega, k, hk, cc.1, fun i y hi hy hf => ?_⟩
        by_cases e : i = j
        · subst e
          rw [hk] at hy
          injection hy with hy
          subst hy
          exact pl_f.2 (by omega)
        · have h1 := pl_f.1 (hmin i y (by omega) hy hf)
          have h2 := pl_t.1 cc.2
          exact pl_f.2 (by omega)
      · rw [if_neg cc]
        refine ⟨fun e => (by cases e), fun b hb => ?_⟩
        injection hb with hb
        subst hb
        refine ⟨by omega, c, hc, hfc, fun i y hi hy hf => ?_⟩
        by_cases e : i = j
        · subst e
          rw [hk] at hy
          injection hy with hy
          subst hy
          rw [hf, Bool.true_and] at cc
          simpa using cc
        · exact hmin i y (by omega) hy hf
theorem bsF_end {lane : Int} {pt la : Int × Int} {L : List Kyy} (nd : L.Nodup) {P : List (Int × Int)} (hP : P = sortP (plsK lane pt L)) {m : Nat} (hm : m ≤ P.length) (hla : 0 < m → P[m - 1]? = some la) :
    (m = P.length → bsF (cnd lane pt la m) L L.length = none) ∧ (∀ p, P[m]? = some p → ∃ b, bsF (cnd lane pt la m) L L.length = some b ∧ L[b]? = some (lane, p)) := by
  have hup : P.Pairwise fun x y => plq x y = true := by rw [hP]; exact sortP_rises (plsK_nodup nd)
  have hmem : ∀ p, p ∈ P ↔ (lane, p) ∈ L ∧ pl p.1 p.2 pt.1 pt.2 = true := fun p => by
    rw [hP, (sortP_perm _).mem_iff]
    exact ⟨plsK_mem, fun h => plsK_of h.1 h.2⟩
  have hidx : ∀ i j x y, i < j → P[i]? = some x → P[j]? = some y → plq x y = true := fun i j x y hij hx hy => by
    obtain ⟨h1, h2⟩ := List.getElem?_eq_some_iff.1 hx
    obtain ⟨h3, h4⟩ := List.getElem?_eq_some_iff.1 hy
    rw [← h2, ← h4]
    exact List.pairwise_iff_getElem.1 hup i j h1 h3 hij
  have hcnd : ∀ k, k ∈ L → cnd lane pt la m k = true → k.1 = lane ∧ ∃ i, m ≤ i ∧ P[i]? = some k.2 := fun k hk h => by
    unfold cnd at h
    simp only [Bool.and_eq_true, decide_eq_true_eq, Bool.or_eq_true] at h
    obtain ⟨h1, h2, h3⟩ := h
    refine ⟨h1, ?_⟩
    have hin : k.2 ∈ P := (hmem k.2).2 ⟨by rw [← h1]; exact hk, h2⟩
    obtain ⟨i, hi, he⟩ := List.getElem_of_mem hin
    have hi2 : P[i]? = some k.2 := by rw [List.getElem?_eq_getElem hi, he]
    refine ⟨i, ?_, hi2⟩
    rcases h3 with h3 | h3
    · omega
    · rcases Nat.lt_or_ge i m with hlt | hge
      · exfalso
        have hl := hla (by omega)
        by_cases e : i = m - 1
        · subst e
          rw [hi2] at hl
          injection hl with hl
          rw [hl] at h3
          have := pl_t.1 h3
          omega
        · have h4 := (plq_iff _ _).1 (hidx i (m - 1) _ _ (by omega) hi2 hl)
          have h5 := pl_t.1 h3
          omega
      · exact hge
  obtain ⟨s1, s2⟩ := bsF_spec (cnd lane pt la m) L L.length (Nat.le_refl _)
  constructor
  · intro e
    cases hx : bsF (cnd lane pt la m) L L.length with
    | none => rfl
    | some b =>
      obtain ⟨-, c, hc, hf, -⟩ := s2 b hx
      obtain ⟨-, i, hi, hi2⟩ := hcnd c (List.mem_of_getElem? hc) hf
      have := (List.getElem?_eq_some_iff.1 hi2).1
      omega
  · intro p hp
    obtain ⟨hin, hpt⟩ := (hmem p).1 (List.mem_of_getElem? hp)
    obtain ⟨i0, hi0, he0⟩ := List.getElem_of_mem hin
    have hi02 : L[i0]? = some (lane, p) := by rw [List.getElem?_eq_getElem hi0, he0]
    have hf0 : cnd lane pt la m (lane, p) = true := by
      unfold cnd
      simp only [Bool.and_eq_true, decide_eq_true_eq, Bool.or_eq_true]
      refine ⟨by first | rfl | trivial, hpt, ?_⟩
      rcases Nat.eq_zero_or_pos m with h | h
      · exact .inl h
      · exact .inr (hidx (m - 1) m _ _ (by omega) (hla h) hp)
    cases hx : bsF (cnd lane pt la m) L L.length with
    | none => rw [s1 hx i0 _ hi0 hi02] at hf0; cases hf0
    | some b =>
      obtain ⟨-, c, hc, hf, hmin⟩ := s2 b hx
      obtain ⟨hc1, i, hi, hi2⟩ := hcnd c (List.mem_of_getElem? hc) hf
      have h1 := pl_f.1 (hmin i0 _ hi0 hi02 hf0)
      have hic : i = m := by
        rcases Nat.lt_or_ge m i with hlt | hge
        · have h2 := (plq_iff _ _).1 (hidx m i _ _ hlt hp hi2)
          exact absurd h2 h1
        · omega
      subst hic
      rw [hp] at hi2
      injection hi2 with hi2
      refine ⟨b, rfl, ?_⟩
      rw [hc, ← hc1, hi2]
theorem grown_other {W W' : World} {B e s n t i : Nat} {v : Value} {xs : List Value} (hO : W.ownsRow B e s v n xs) (hg : W.grownBy W' v.ownBlock) (hk : kindR W i t) (ht : t ≠ e) : W'.heap[i]? = W.heap[i]? :=
  hg.block i (by obtain ⟨c, f, h⟩ := hk; exact (Array.getElem?_eq_some_iff.1 h).1) (fun er => ht (hk.uniq (own_kindR hO er.symm)))
def bsV (x : Option Nat) : Int := match x with | none => -1 | some b => (b : Int)
theorem rplz {a0 a1 b0 b1 : Int} {z : Bool} (h : pl a0 a1 b0 b1 = z) (w : World) : Calls Tryz.prog 26 #[Plc a0 a1, Plc b0 b1] w fun e w' => e = .returned (.bool z) ∧ Below w.heap.size w w' := h ▸ rpless_any a0 a1 b0 b1 w
/-- What the document's List answers. -/
def lisQ (T : List Tok) (lane : Int) (pt : Int × Int) (c : Nat) : List Ent := ((sortP (plsK lane pt (idsT T))).take c).map fun p => (p, JL (smK T (lane, p)))
theorem lisQ_next {T : List Tok} {lane : Int} {pt p : Int × Int} {m : Nat} (h : (sortP (plsK lane pt (idsT T)))[m]? = some p) : lisQ T lane pt (m + 1) = lisQ T lane pt m ++ [(p, JL (smK T (lane, p)))] := by
  unfold lisQ
  rw [List.take_add_one, h, List.map_append]
  rfl
theorem lisQ_len {T : List Tok} {lane : Int} {pt : Int × Int} {m : Nat} (h : m ≤ (sortP (plsK lane pt (idsT T))).length) : (lisQ T lane pt m).length = m := by
  unfold lisQ; rw [List.length_map, List.length_take]; omega
set_option maxHeartbeats 16000000 in
theorem rlist16_any (b : Nat) (vt : Value) (T : List Tok) (lane : Int) (pt : Int × Int) (mo : Int) (w : World) (hb : b < w.heap.size) (h6 : w.cell? ⟨b, 6, none⟩ = some vt) (ht : ER E9 w vt T) (hT : T.length ≤ 2000) (hf : ∀ x ∈ T, FitT x) :
    Calls Tryz.prog 42 #[.pointer (some ⟨b, 0, none⟩), .int .i64 lane, Plc pt.1 pt.2, .int .i64 mo] w fun e w' => ∃ v, e = .returned v ∧ EO EE 79 w' w.heap.size v (lisQ T lane pt mo.toNat) ∧ Below w.heap.size w w' := by
  have HCl : Hid (∀ (k : Kyy) (V : World), Below w.heap.size w V → Calls Tryz.prog 68 #[.pointer (some ⟨b, 0, none⟩), .agg #[.int .i64 k.1, .int .i64 k.2.1, .int .i64 k.2.2]] V fun e w' => e = .returned (.tuple #[.agg (CA (JL (smK T k))), .bool (decide (0 < (smK T k).length))]) ∧ Below V.heap.size V w') := fun k V hV => rcell16_any b vt T k V (Nat.lt_of_lt_of_le hb hV.size) (keep_cell hV h6 hb) (ht.keep hV) hT hf
  have HId : Hid (∀ V : World, Below w.heap.size w V → Calls Tryz.prog 61 #[.pointer (some ⟨b, 0, none⟩)] V fun e w' => ∃ v, e = .returned v ∧ EO E3k 125 w' V.heap.size v (idsT T) ∧ Below V.heap.size V w') := fun V hV => rids16_any b vt T V (Nat.lt_of_lt_of_le hb hV.size) (keep_cell hV h6 hb) (ht.keep hV) (by omega)
  have HEnd : Hid (∀ (m : Nat) (la : Int × Int), m ≤ (sortP (plsK lane pt (idsT T))).length → (0 < m → (sortP (plsK lane pt (idsT T)))[m - 1]? = some la) → (m = (sortP (plsK lane pt (idsT T))).length → bsF (cnd lane pt la m) (idsT T) (idsT T).length = none) ∧ (∀ p, (sortP (plsK lane pt (idsT T)))[m]? = some p → ∃ b, bsF (cnd lane pt la m) (idsT T) (idsT T).length = some b ∧ (idsT T)[b]? = some (lane, p))) := fun m la hm hla => bsF_end (idsT_nodup T) rfl hm hla
  have HNx : Hid (∀ (m : Nat) (p : Int × Int), (sortP (plsK lane pt (idsT T)))[m]? = some p → lisQ T lane pt (m + 1) = lisQ T lane pt m ++ [(p, JL (smK T (lane, p)))]) := fun m p h => lisQ_next h
  have HLn : Hid (∀ m, m ≤ (sortP (plsK lane pt (idsT T))).length → (lisQ T lane pt m).length = m) := fun m h => lisQ_len h
  have HAll : Hid (∀ m, (sortP (plsK lane pt (idsT T))).length ≤ m → lisQ T lane pt m = lisQ T lane pt (sortP (plsK lane pt (idsT T))).length) := fun m h => by unfold lisQ; rw [List.take_of_length_le h, List.take_of_length_le (Nat.le_refl _)]
  have hL2 : (idsT T).length ≤ 2000 := Nat.le_trans (idsT_len T) hT
  have hP2 : (sortP (plsK lane pt (idsT T))).length ≤ 2000 := by rw [sortP_len]; exact Nat.le_trans (plsK_len _ _ _) hL2
  have HQ0 : Hid (lisQ T lane pt 0 = []) := rfl
  clear h6 ht hf hT hb
  generalize sortP (plsK lane pt (idsT T)) = P at *
  generalize hQ : lisQ T lane pt = Q at *
  generalize idsT T = L at *
  generalize hn : L.length = n at *
  generalize hpn : P.length = pn at *
  obtain ⟨p0, p1⟩ := pt
  try dsimp only at *
  obtain ⟨A, hE, hX, hw⟩ := blk1 w #[.int .i64 p0, .int .i64 p1] 24
  have hsA : w.heap.size < A.heap.size := hX.lt
  go_enter Tryz.func42, Tryz.ntmps42
  go_upto_region 1 with fail
  clear hE
  go_upto_region 3 with (go_at_call 61; refine (HId.out _ hw).mono ?_; rintro e W1 ⟨v1, rfl, hI1, b1⟩)
  obtain ⟨q1, c1, e1⟩ := hI1.form
  rw [hn] at e1
  subst e1
  have hX1 := hX.keep b1
  have hw1 := ab_trans hw b1
  have hs1 : A.heap.size ≤ W1.heap.size := b1.size
  clear hX hw b1
  go_wp2_with (first
    | (refine al_blk rfl rfl #[.int .i64 0, .int .i64 0] (zero_plG _) ?_; intro W2 e2 hX2 b2; clear e2)
    | (refine st_blk rfl rfl hX2 rfl rfl info_plc rfl (by simp [Value.oneCell']) ?_; intro W3 hX3 C3))
  have b23 := ab_chg b2 C3 (Nat.le_refl _)
  have hI3 := hI1.keep b23
  have hXt := hX1.keep b23
  have hw3 := ab_trans hw1 b23
  generalize hlb : W1.heap.size = lb at *
  have hlbw : w.heap.size < lb := by omega
  clear hX2 b2 C3 hI1 hX1 b23 hw1
  go_frame
  go_loopw [9] (fun v wr => ∃ (m : Nat) (la : Int × Int), m ≤ pn ∧ (m = 0 ∨ (m : Int) ≤ mo) ∧ (0 < m → P[m - 1]? = some la) ∧ Blk wr lb #[.int .i64 la.1, .int .i64 la.2] 24 ∧ Blk wr w.heap.size #[.int .i64 p0, .int .i64 p1] 24 ∧ EO E3k 125 wr A.heap.size (.slice q1 n c1) L ∧ EO EE 79 wr w.heap.size v (Q m) ∧ Below w.heap.size w wr) (fun v _ => pn + 1 - slLen v)
  case atStart => exact ⟨0, (0, 0), by omega, .inl rfl, fun h => absurd h (by omega), hX3, hXt, hI3, by rw [HQ0.out]; exact eo_nil _ _ _ _, hw3⟩
  case round =>
    clear hX3 hXt hI3 hw3
    obtain ⟨m, la, hm, hmo, hla, hB, hXt, hI, hO, hw⟩ := hrel
    obtain ⟨qv, cv, hv⟩ := hO.form
    rw [HLn.out m hm] at hv
    subst hv
    obtain ⟨l0, l1⟩ := la
    try dsimp only at hB hla
    have hmm2 : m ≤ 2000 := by omega
    by_cases c0 : (m : Int) < mo
    rotate_left
    · have HF : Hid (Q m = Q mo.toNat) := by
        show _ = _
        have : m = mo.toNat := by omega
        rw [this]
      go_wp2_with fail
      go_ret
      exact ⟨_, rfl, by rw [← HF.out]; exact hO, hw⟩
    · obtain ⟨q', cp', g', off', e', hc', hm', hp', hr'⟩ := hI.er.at
      rw [hn] at e' hp'
      injection e' with e1' e2' e3'
      subst e1'
      subst e3'
      clear e2'
      obtain ⟨wo, hwo⟩ : ∃ wo : World, wo = wr := ⟨_, rfl⟩
      have HZ : Hid (∀ V, Below wr.heap.size wr V → V.cell? ⟨lb, 0, none⟩ = some (.int .i64 l0) ∧ V.cell? ⟨lb, 1, none⟩ = some (.int .i64 l1) ∧ V.cell? ⟨w.heap.size, 0, none⟩ = some (.int .i64 p0) ∧ V.cell? ⟨w.heap.size, 1, none⟩ = some (.int .i64 p1)) := fun V hV => ⟨(hB.keep hV).at rfl, (hB.keep hV).at rfl, (hXt.keep hV).at rfl, (hXt.keep hV).at rfl⟩
      have HLt : Hid (lb < wr.heap.size ∧ w.heap.size < wr.heap.size) := ⟨hB.lt, hXt.lt⟩
      have HK : Hid (0 < n → ∃ g off, q1 = some ⟨g, off, none⟩ ∧ g < wr.heap.size ∧ ∀ i k, L[i]? = some k → wr.cell? ⟨g, off + i * 3, none⟩ = some (.int .i64 k.1) ∧ wr.cell? ⟨g, off + i * 3 + 1, none⟩ = some (.int .i64 k.2.1) ∧ wr.cell? ⟨g, off + i * 3 + 2, none⟩ = some (.int .i64 k.2.2)) := fun h => by
        obtain ⟨h1, h2⟩ := hp' h
        refine ⟨g', off', h1, h2, fun i k hk => ?_⟩
        have z0 := hr' i k hk 0 _ rfl
        rw [Nat.add_zero] at z0
        exact ⟨z0, hr' i k hk 1 _ rfl, hr' i k hk 2 _ rfl⟩
      clear hc' hm' hp' hr'
      have hHA : Hid (EO E3k 125 wr A.heap.size (.slice q1 n c1) L ∧ EO EE 79 wr w.heap.size (.slice qv m cv) (Q m) ∧ Blk wr lb #[.int .i64 l0, .int .i64 l1] 24 ∧ Blk wr w.heap.size #[.int .i64 p0, .int .i64 p1] 24) := ⟨hI, hO, hB, hXt⟩
      clear hI hO hB hXt
      have HE := HEnd.out m (l0, l1) hm hla
      have HEn : Hid ((m = pn → bsF (cnd lane (p0, p1) (l0, l1) m) L n = none) ∧ (∀ p, P[m]? = some p → ∃ b, bsF (cnd lane (p0, p1) (l0, l1) m) L n = some b ∧ L[b]? = some (lane, p))) := HE
      clear HE hla
      have HCn : Hid (∀ k, cnd lane (p0, p1) (l0, l1) m k = (decide (k.1 = lane) && (pl k.2.1 k.2.2 p0 p1 && (decide (m = 0) || pl l0 l1 k.2.1 k.2.2)))) := fun k => rfl
      have HSp : Hid (∀ j x, j ≤ n → bsF (cnd lane (p0, p1) (l0, l1) m) L j = some x → x < j) := fun j x hj hx => ((bsF_spec _ L j (by omega)).2 x hx).1
      have HSu : Hid (∀ j k, L[j]? = some k → bsF (cnd lane (p0, p1) (l0, l1) m) L (j + 1) = if (cnd lane (p0, p1) (l0, l1) m k && upB1 L k (bsF (cnd lane (p0, p1) (l0, l1) m) L j)) = true then some j else bsF (cnd lane (p0, p1) (l0, l1) m) L j) := fun j k h => bsF_succ h
      have HB0 : Hid (bsF (cnd lane (p0, p1) (l0, l1) m) L 0 = none) := rfl
      generalize hF : bsF (cnd lane (p0, p1) (l0, l1) m) L = F at *
      generalize cnd lane (p0, p1) (l0, l1) m = C at *
      clear hF
      have hms : (mo : Int) = mo := rfl
      have hwW := hw
      go_wp2_with fail
      go_loopw [12, 13] (fun bv iv wr' => ∃ (j : Nat) (x : Int), j ≤ n ∧ iv = .int .i64 (j : Int) ∧ bv = .int .i64 x ∧ x = bsV (F j) ∧ Below wo.heap.size wo wr') (fun _ iv _ => n - (intOf iv).toNat)
      case atStart => exact ⟨0, -1, by omega, rfl, rfl, by rw [HB0.out]; rfl, by rw [hwo]; exact Below.refl _ _⟩
      case round =>
        subst hwo
        obtain ⟨j, x, hj, rfl, rfl, hx, hb2⟩ := hrel
        by_cases cj : j = n
        · subst cj
          have hlw := HLt.out
          cases hFx : F j with
          | none =>
            rw [hFx] at hx
            obtain rfl : x = -1 := hx
            have hmp : m = pn := by
              rcases Nat.lt_or_ge m pn with h | h
              · exfalso
                obtain ⟨p, hp⟩ : ∃ p, P[m]? = some p := ⟨P[m]'(by omega), List.getElem?_eq_getElem (by omega)⟩
                obtain ⟨b', hb', -⟩ := HEn.out.2 p hp
                rw [hFx] at hb'
                cases hb'
              · omega
            have HF : Hid (Q m = Q mo.toNat) := by
              show _ = _
              have h1 := HAll.out mo.toNat (by omega)
              rw [h1, hmp]
            have hO := hHA.out.2.1.keep hb2
            clear HEn HSp HSu HK HZ HCn hFx hmp
            go_wp2_with fail
            go_ret
            exact ⟨_, rfl, by rw [← HF.out]; exact hO, ab_trans hwW hb2⟩
          | some bb =>
            rw [hFx] at hx
            obtain rfl : x = (bb : Int) := hx
            have hbj : bb < j := HSp.out j bb (Nat.le_refl _) hFx
            have hmp : m < pn := by
              rcases Nat.lt_or_ge m pn with h | h
              · exact h
              · exfalso
                have := HEn.out.1 (by omega)
                rw [hFx] at this
                cases this
            obtain ⟨p, hp⟩ : ∃ p, P[m]? = some p := ⟨P[m]'(by omega), List.getElem?_eq_getElem (by omega)⟩
            have hLb : L[bb]? = some (lane, p) := by
              obtain ⟨b', hb', hb''⟩ := HEn.out.2 p hp
              rw [hFx] at hb'
              injection hb' with hb'
              rw [hb']
              exact hb''
            have HQn : Hid (Q (m + 1) = Q m ++ [(p, JL (smK T (lane, p)))]) := HNx.out m p hp
            have HPm : Hid (P[m]? = some p) := hp
            obtain ⟨g, off, rfl, hgl, hcell⟩ := HK.out (by omega)
            obtain ⟨k0, k1, k2⟩ := hcell bb _ hLb
            obtain ⟨pa, pb⟩ := p
            try dsimp only at k0 k1 k2 HQn
            have y0 := keep_cell hb2 k0 hgl
            have y1 := keep_cell hb2 k1 hgl
            have y2 := keep_cell hb2 k2 hgl
            have hbi : (bb : Int) < (j : Int) := by omega
            have hgl2 : g < wr.heap.size := Nat.lt_of_lt_of_le hgl hb2.size
            obtain ⟨hI, hO, hB, hXt⟩ := hHA.out
            have hw2 := ab_trans hwW hb2
            have HC2 := HCl.out (lane, pa, pb) wr hw2
            try dsimp only at HC2
            generalize JL (smK T (lane, pa, pb)) = cc at *
            generalize hdd : decide (0 < (smK T (lane, pa, pb)).length) = dd at *
            have hI2 := hI.keep hb2
            have hO2 := hO.keep hb2
            have hB2 := hB.keep hb2
            have hX2 := hXt.keep hb2
            clear HEn HSp HSu HK HZ HCn hFx hp hLb hcell k0 k1 k2 hI hO hB hXt hHA hdd
            have hsz2 : mo = mo := rfl
            go_upto_region 13 with (first
              | (go_at_call 68; refine HC2.mono ?_; rintro e Y1 ⟨rfl, d1⟩)
              | (refine al_cell rfl rfl ?_; intro Y2 ey hY2 d2; clear ey)
              | (refine st_cell rfl rfl hY2 rfl rfl ?_; intro Y3 hY3 C3))
            have d13 := ab_trans d1 (ab_chg d2 C3 (Nat.le_refl _))
            have hw3 := ab_trans hw2 d13
            have hI3 := hI2.keep d13
            have hO3 := hO2.keep d13
            have hB3 := hB2.keep d13
            have hX3 := hX2.keep d13
            have z1 := keep_cell d13 y1 hgl2
            have z2 := keep_cell d13 y2 hgl2
            have hlY : Y1.heap.size ≠ lb := by have := hb2.size; have := d1.size; omega
            clear hI2 hO2 hB2 hX2 y0 y1 y2 HC2 hY2 C3 d2 d1
            go_upto_region 14 with (refine st_blk rfl rfl hB3 rfl (vs := #[.int .i64 pa, .int .i64 pb]) rfl info_plc rfl (by simp [Value.oneCell']) ?_; intro Y4 hB4 C4)
            have hI4 : EO E3k 125 Y4 A.heap.size (.slice (some ⟨g, off, none⟩) j c1) L := own_at hI3 (fun g' hg' => C4.other g' (fun e => absurd ((eo_kindA hI3 hg').uniq (e ▸ hB3.kindR)) (by decide)))
            have hO4 : EO EE 79 Y4 w.heap.size (.slice qv m cv) (Q m) := own_at hO3 (fun g' hg' => C4.other g' (fun e => absurd ((eo_kindA hO3 hg').uniq (e ▸ hB3.kindR)) (by decide)))
            have hX4 := hX3.chg C4 (by omega)
            have hY4 := hY3.chg C4 hlY
            have hw4 := ab_chg hw3 C4 (Nat.le_of_lt hlbw)
            clear hI3 hO3 hB3 hX3 hY3 C4 z1 z2 hlY
            have HLm : Hid ((Q m).length = m) := HLn.out m (by omega)
            go_wp2_with (first
              | (refine ld_blk rfl rfl hB4 rfl _ Tryz.underlying24 rfl info_plc ?_)
              | (refine ld_blk rfl rfl hY4 rfl _ Tryz.underlying77 rfl (info_cell cc) ?_)
              | (refine valS rfl _ (bd_run rfl (built_entB pa pb cc) (by simp only [List.map_toArray, List.map_cons, List.map_nil]; rfl) _) ?_)
              | (refine bs_EE rfl rfl ((pa, pb), cc) (by simp only [List.map_toArray, List.map_cons, List.map_nil]; rfl) ?_; intro Y5 hB5 d5)
              | (at_builtin; refine app_e (E := EE) w rfl rfl Tryz.underlying31 infoEntB (by show (entA zEnt).size = 76; exact entA_size _) rfl (hO4.keep d5) rfl hB5.er ?c1 ?c2 (ab_trans hw4 d5) ?_))
            case c1 => have := HLm.out; rw [List.length_singleton]; omega
            case c2 => have := HLm.out; rw [List.length_singleton]; omega
            intro v6 Y6 hO6 d6 hg6
            obtain ⟨q6, c6, e6⟩ := hO6.form
            rw [List.length_append, List.length_singleton, HLm.out] at e6
            subst e6
            have hO5 := hO4.keep d5
            have e1 := grown_other hO5 hg6 (hB4.keep d5).kindR (by decide)
            have e2 := grown_other hO5 hg6 (hX4.keep d5).kindR (by decide)
            have hB6 : Blk Y6 lb #[.int .i64 pa, .int .i64 pb] 24 := by unfold Blk; rw [e1]; exact hB4.keep d5
            have hX6 : Blk Y6 w.heap.size #[.int .i64 p0, .int .i64 p1] 24 := by unfold Blk; rw [e2]; exact hX4.keep d5
            have hI5 := hI4.keep d5
            have hI6 : EO E3k 125 Y6 A.heap.size (.slice (some ⟨g, off, none⟩) j c1) L := own_at hI5 (fun g' hg' => grown_other hO5 hg6 (eo_kindA hI5 hg') (by decide))
            clear e1 e2 hI5 hO5 hB4 hX4 hI4 hO4 d5 hg6 hY4 hw4 hB5
            go_wp2_with fail
            go_roundw
            case rel => exact ⟨m + 1, (pa, pb), by omega, .inr (by omega), fun _ => by rw [Nat.add_sub_cancel]; exact HPm.out, hB6, hX6, hI6, by rw [HQn.out]; exact hO6, d6⟩
            case measure => simp [slLen]; omega
        · obtain ⟨k, hk⟩ : ∃ k, L[j]? = some k := ⟨L[j], List.getElem?_eq_getElem (by omega)⟩
          have hx2 := hx
          have HSuc := HSu.out j k hk
          have HC := HCn.out k
          obtain ⟨g, off, rfl, hgl, hcell⟩ := HK.out (by omega)
          obtain ⟨k0, k1, k2⟩ := hcell j k hk
          have y0 := keep_cell hb2 k0 hgl
          have y1 := keep_cell hb2 k1 hgl
          have y2 := keep_cell hb2 k2 hgl
          have hgl2 : g < wr.heap.size := Nat.lt_of_lt_of_le hgl hb2.size
          obtain ⟨u0, u1, u2, u3⟩ := HZ.out wr hb2
          have hl1 : lb < wr.heap.size := Nat.lt_of_lt_of_le HLt.out.1 hb2.size
          have hl2 : w.heap.size < wr.heap.size := Nat.lt_of_lt_of_le HLt.out.2 hb2.size
          have hki : (j : Int) < (n : Int) := by omega
          have hBest : ∀ bb, F j = some bb → ∃ c : Kyy, bb < n ∧ L[bb]? = some c ∧ wr.cell? ⟨g, off + bb * 3 + 1, none⟩ = some (.int .i64 c.2.1) ∧ wr.cell? ⟨g, off + bb * 3 + 2, none⟩ = some (.int .i64 c.2.2) := fun bb hbb => by
            have h1 : bb < j := HSp.out j bb (by omega) hbb
            obtain ⟨c, hc⟩ : ∃ c, L[bb]? = some c := ⟨L[bb]'(by omega), List.getElem?_eq_getElem (by omega)⟩
            obtain ⟨z0, z1, z2⟩ := hcell bb c hc
            exact ⟨c, by omega, hc, keep_cell hb2 z1 hgl, keep_cell hb2 z2 hgl⟩
          have hUp : ∀ bb c, F j = some bb → L[bb]? = some c → upB1 L k (F j) = pl k.2.1 k.2.2 c.2.1 c.2.2 := fun bb c h1 h2 => by rw [h1]; unfold upB1; simp only [h2]
          have hUn : F j = none → upB1 L k (F j) = true := fun h => by rw [h]; rfl
          clear HSu HCn HSp HEn HK HZ HLt hHA hcell k0 k1 k2 hk hx
          obtain ⟨ka, kb, kc⟩ := k
          try dsimp only at *
          by_cases c1 : ka = lane
          rotate_left
          · have e1 : (ka == lane) = false := by simpa using c1
            have HSel : Hid (bsV (F (j + 1)) = x) := by show _ = _; rw [HSuc, HC, decide_eq_false c1]; simpa using hx2.symm
            clear HSuc HC hBest hUp hUn hx2
            go_upto_region 9 with fail
            refine wp_region_below (by kernel_rfl) (by kernel_rfl) ?_
            have HZ9 := cls_some wr
            have Z0 := cls_cell y0 hgl2
            have Z1 := cls_cell y1 hgl2
            have Z2 := cls_cell y2 hgl2
            have U0 := cls_cell u0 hl1
            have U1 := cls_cell u1 hl1
            have U2 := cls_cell u2 hl2
            have U3 := cls_cell u3 hl2
            iterate 14 (go_big_quiet_step (fail))
            iterate 1 (go_big_quiet_step (fail))
            iterate 12 (go_big_quiet_step (fail))
            iterate 1 (go_big_quiet_step (fail))
            iterate 16 (go_big_quiet_step (fail))
            iterate 1 (go_big_quiet_step (fail))
            repeat (go_big_quiet_step (fail))
            refine wpQuiet_nil ?_
            rintro w7 ⟨⟨W7, b7⟩, e7⟩
            dsimp only at e7
            subst e7
            have hb7 := ab_trans hb2 b7
            go_wp2_with fail
            go_roundw
            case rel => exact ⟨j + 1, _, by omega, by go_num, rfl, by rw [HSel.out], hb7⟩
            case measure => simp [intOf]; omega
          have e1 : (ka == lane) = true := by simpa using c1
          cases c2' : pl kb kc p0 p1
          · have HSel : Hid (bsV (F (j + 1)) = x) := by show _ = _; rw [HSuc, HC, c2']; simpa using hx2.symm
            clear HSuc HC hBest hUp hUn hx2
            go_upto_region 9 with fail
            refine wp_region_below (by kernel_rfl) (by kernel_rfl) ?_
            have HZ9 := cls_some wr
            have Z0 := cls_cell y0 hgl2
            have Z1 := cls_cell y1 hgl2
            have Z2 := cls_cell y2 hgl2
            have U0 := cls_cell u0 hl1
            have U1 := cls_cell u1 hl1
            have U2 := cls_cell u2 hl2
            have U3 := cls_cell u3 hl2
            iterate 14 (go_big_quiet_step (fail))
            go_big_quiet_step (first | (go_at_call 26; exact calls_below (rplz c2' _)))
            iterate 12 (go_big_quiet_step (fail))
            iterate 1 (go_big_quiet_step (fail))
            iterate 16 (go_big_quiet_step (fail))
            iterate 1 (go_big_quiet_step (fail))
            repeat (go_big_quiet_step (fail))
            refine wpQuiet_nil ?_
            rintro w7 ⟨⟨W7, b7⟩, e7⟩
            dsimp only at e7
            subst e7
            have hb7 := ab_trans hb2 b7
            go_wp2_with fail
            go_roundw
            case rel => exact ⟨j + 1, _, by omega, by go_num, rfl, by rw [HSel.out], hb7⟩
            case measure => simp [intOf]; omega
          have HC2 : C (ka, kb, kc) = (decide (m = 0) || pl l0 l1 kb kc) := by rw [HC, c2', decide_eq_true c1]; simp
          clear HC
          by_cases m0 : m = 0
          · have em : ((m : Int) == 0) = true := by simp [m0]
            have HC3 : C (ka, kb, kc) = true := by rw [HC2, decide_eq_true m0]; rfl
            clear HC2
            cases hFx : F j with
            | none =>
              rw [hFx] at hx2
              obtain rfl : x = -1 := hx2
              have HSel : Hid (bsV (F (j + 1)) = (j : Int)) := by show _ = _; rw [HSuc, HC3, hUn hFx]; rfl
              clear HSuc HC3 hBest hUp hUn hFx
              go_upto_region 9 with fail
              refine wp_region_below (by kernel_rfl) (by kernel_rfl) ?_
              have HZ9 := cls_some wr
              have Z0 := cls_cell y0 hgl2
              have Z1 := cls_cell y1 hgl2
              have Z2 := cls_cell y2 hgl2
              have U0 := cls_cell u0 hl1
              have U1 := cls_cell u1 hl1
              have U2 := cls_cell u2 hl2
              have U3 := cls_cell u3 hl2
              iterate 14 (go_big_quiet_step (fail))
              go_big_quiet_step (first | (go_at_call 26; exact calls_below (rplz c2' _)))
              iterate 12 (go_big_quiet_step (fail))
              iterate 1 (go_big_quiet_step (fail))
              iterate 16 (go_big_quiet_step (fail))
              iterate 1 (go_big_quiet_step (fail))
              repeat (go_big_quiet_step (fail))
              refine wpQuiet_nil ?_
              rintro w7 ⟨⟨W7, b7⟩, e7⟩
              dsimp only at e7
              subst e7
              have hb7 := ab_trans hb2 b7
              go_wp2_with fail
              go_roundw
              case rel => exact ⟨j + 1, _, by omega, by go_num, rfl, by rw [HSel.out], hb7⟩
              case measure => simp [intOf]; omega
            | some bb =>
              rw [hFx] at hx2
              obtain rfl : x = (bb : Int) := hx2
              obtain ⟨⟨ca, cb, cc⟩, hbn, hc, v1, v2⟩ := hBest bb hFx
              have hup := hUp bb _ hFx hc
              try dsimp only at v1 v2 hup
              have hbi : (bb : Int) < (n : Int) := by omega
              have hb0 : ¬ (bb : Int) < 0 := by omega
              have hb1 : decide ((bb : Int) < 0) = false := decide_eq_false hb0
              cases c6' : pl kb kc cb cc
              · have HSel : Hid (bsV (F (j + 1)) = (bb : Int)) := by show _ = _; rw [HSuc, HC3, hup, c6', hFx]; rfl
                clear HSuc HC3 hBest hUp hUn hFx hup hc
                go_upto_region 9 with fail
                refine wp_region_below (by kernel_rfl) (by kernel_rfl) ?_
                have HZ9 := cls_some wr
                have Z0 := cls_cell y0 hgl2
                have Z1 := cls_cell y1 hgl2
                have Z2 := cls_cell y2 hgl2
                have U0 := cls_cell u0 hl1
                have U1 := cls_cell u1 hl1
                have U2 := cls_cell u2 hl2
                have U3 := cls_cell u3 hl2
                have V1 := cls_cell v1 hgl2
                have V2 := cls_cell v2 hgl2
                iterate 14 (go_big_quiet_step (fail))
                go_big_quiet_step (first | (go_at_call 26; exact calls_below (rplz c2' _)))
                iterate 12 (go_big_quiet_step (fail))
                iterate 1 (go_big_quiet_step (fail))
                iterate 16 (go_big_quiet_step (fail))
                go_big_quiet_step (first | (go_at_call 26; exact calls_below (rplz c6' _)))
                repeat (go_big_quiet_step (fail))
                refine wpQuiet_nil ?_
                rintro w7 ⟨⟨W7, b7⟩, e7⟩
                dsimp only at e7
                subst e7
                have hb7 := ab_trans hb2 b7
                go_wp2_with fail
                go_roundw
                case rel => exact ⟨j + 1, _, by omega, by go_num, rfl, by rw [HSel.out], hb7⟩
                case measure => simp [intOf]; omega
              · have HSel : Hid (bsV (F (j + 1)) = (j : Int)) := by show _ = _; rw [HSuc, HC3, hup, c6']; rfl
                clear HSuc HC3 hBest hUp hUn hFx hup hc
                go_upto_region 9 with fail
                refine wp_region_below (by kernel_rfl) (by kernel_rfl) ?_
                have HZ9 := cls_some wr
                have Z0 := cls_cell y0 hgl2
                have Z1 := cls_cell y1 hgl2
                have Z2 := cls_cell y2 hgl2
                have U0 := cls_cell u0 hl1
                have U1 := cls_cell u1 hl1
                have U2 := cls_cell u2 hl2
                have U3 := cls_cell u3 hl2
                have V1 := cls_cell v1 hgl2
                have V2 := cls_cell v2 hgl2
                iterate 14 (go_big_quiet_step (fail))
                go_big_quiet_step (first | (go_at_call 26; exact calls_below (rplz c2' _)))
                iterate 12 (go_big_quiet_step (fail))
                iterate 1 (go_big_quiet_step (fail))
                iterate 16 (go_big_quiet_step (fail))
                go_big_quiet_step (first | (go_at_call 26; exact calls_below (rplz c6' _)))
                repeat (go_big_quiet_step (fail))
                refine wpQuiet_nil ?_
                rintro w7 ⟨⟨W7, b7⟩, e7⟩
                dsimp only at e7
                subst e7
                have hb7 := ab_trans hb2 b7
                go_wp2_with fail
                go_roundw
                case rel => exact ⟨j + 1, _, by omega, by go_num, rfl, by rw [HSel.out], hb7⟩
                case measure => simp [intOf]; omega
          have em : ((m : Int) == 0) = false := by simp; omega
          cases c4' : pl l0 l1 kb kc
          · have HSel : Hid (bsV (F (j + 1)) = x) := by show _ = _; rw [HSuc, HC2, c4', decide_eq_false m0]; simpa using hx2.symm
            clear HSuc HC2 hBest hUp hUn hx2
            go_upto_region 9 with fail
            refine wp_region_below (by kernel_rfl) (by kernel_rfl) ?_
            have HZ9 := cls_some wr
            have Z0 := cls_cell y0 hgl2
            have Z1 := cls_cell y1 hgl2
            have Z2 := cls_cell y2 hgl2
            have U0 := cls_cell u0 hl1
            have U1 := cls_cell u1 hl1
            have U2 := cls_cell u2 hl2
            have U3 := cls_cell u3 hl2
            iterate 14 (go_big_quiet_step (fail))
            go_big_quiet_step (first | (go_at_call 26; exact calls_below (rplz c2' _)))
            iterate 12 (go_big_quiet_step (fail))
            go_big_quiet_step (first | (go_at_call 26; exact calls_below (rplz c4' _)))
            iterate 16 (go_big_quiet_step (fail))
            iterate 1 (go_big_quiet_step (fail))
            repeat (go_big_quiet_step (fail))
            refine wpQuiet_nil ?_
            rintro w7 ⟨⟨W7, b7⟩, e7⟩
            dsimp only at e7
            subst e7
            have hb7 := ab_trans hb2 b7
            go_wp2_with fail
            go_roundw
            case rel => exact ⟨j + 1, _, by omega, by go_num, rfl, by rw [HSel.out], hb7⟩
            case measure => simp [intOf]; omega
          have HC3 : C (ka, kb, kc) = true := by rw [HC2, c4']; simp
          clear HC2
          cases hFx : F j with
          | none =>
            rw [hFx] at hx2
            obtain rfl : x = -1 := hx2
            have HSel : Hid (bsV (F (j + 1)) = (j : Int)) := by show _ = _; rw [HSuc, HC3, hUn hFx]; rfl
            clear HSuc HC3 hBest hUp hUn hFx
            go_upto_region 9 with fail
            refine wp_region_below (by kernel_rfl) (by kernel_rfl) ?_
            have HZ9 := cls_some wr
            have Z0 := cls_cell y0 hgl2
            have Z1 := cls_cell y1 hgl2
            have Z2 := cls_cell y2 hgl2
            have U0 := cls_cell u0 hl1
            have U1 := cls_cell u1 hl1
            have U2 := cls_cell u2 hl2
            have U3 := cls_cell u3 hl2
            iterate 14 (go_big_quiet_step (fail))
            go_big_quiet_step (first | (go_at_call 26; exact calls_below (rplz c2' _)))
            iterate 12 (go_big_quiet_step (fail))
            go_big_quiet_step (first | (go_at_call 26; exact calls_below (rplz c4' _)))
            iterate 16 (go_big_quiet_step (fail))
            iterate 1 (go_big_quiet_step (fail))
            repeat (go_big_quiet_step (fail))
            refine wpQuiet_nil ?_
            rintro w7 ⟨⟨W7, b7⟩, e7⟩
            dsimp only at e7
            subst e7
            have hb7 := ab_trans hb2 b7
            go_wp2_with fail
            go_roundw
            case rel => exact ⟨j + 1, _, by omega, by go_num, rfl, by rw [HSel.out], hb7⟩
            case measure => simp [intOf]; omega
          | some bb =>
            rw [hFx] at hx2
            obtain rfl : x = (bb : Int) := hx2
            obtain ⟨⟨ca, cb, cc⟩, hbn, hc, v1, v2⟩ := hBest bb hFx
            have hup := hUp bb _ hFx hc
            try dsimp only at v1 v2 hup
            have hbi : (bb : Int) < (n : Int) := by omega
            have hb0 : ¬ (bb : Int) < 0 := by omega
            have hb1 : decide ((bb : Int) < 0) = false := decide_eq_false hb0
            cases c6' : pl kb kc cb cc
            · have HSel : Hid (bsV (F (j + 1)) = (bb : Int)) := by show _ = _; rw [HSuc, HC3, hup, c6', hFx]; rfl
              clear HSuc HC3 hBest hUp hUn hFx hup hc
              go_upto_region 9 with fail
              refine wp_region_below (by kernel_rfl) (by kernel_rfl) ?_
              have HZ9 := cls_some wr
              have Z0 := cls_cell y0 hgl2
              have Z1 := cls_cell y1 hgl2
              have Z2 := cls_cell y2 hgl2
              have U0 := cls_cell u0 hl1
              have U1 := cls_cell u1 hl1
              have U2 := cls_cell u2 hl2
              have U3 := cls_cell u3 hl2
              have V1 := cls_cell v1 hgl2
              have V2 := cls_cell v2 hgl2
              iterate 14 (go_big_quiet_step (fail))
              go_big_quiet_step (first | (go_at_call 26; exact calls_below (rplz c2' _)))
              iterate 12 (go_big_quiet_step (fail))
              go_big_quiet_step (first | (go_at_call 26; exact calls_below (rplz c4' _)))
              iterate 16 (go_big_quiet_step (fail))
              go_big_quiet_step (first | (go_at_call 26; exact calls_below (rplz c6' _)))
              repeat (go_big_quiet_step (fail))
              refine wpQuiet_nil ?_
              rintro w7 ⟨⟨W7, b7⟩, e7⟩
              dsimp only at e7
              subst e7
              have hb7 := ab_trans hb2 b7
              go_wp2_with fail
              go_roundw
              case rel => exact ⟨j + 1, _, by omega, by go_num, rfl, by rw [HSel.out], hb7⟩
              case measure => simp [intOf]; omega
            · have HSel : Hid (bsV (F (j + 1)) = (j : Int)) := by show _ = _; rw [HSuc, HC3, hup, c6']; rfl
              clear HSuc HC3 hBest hUp hUn hFx hup hc
              go_upto_region 9 with fail
              refine wp_region_below (by kernel_rfl) (by kernel_rfl) ?_
              have HZ9 := cls_some wr
              have Z0 := cls_cell y0 hgl2
              have Z1 := cls_cell y1 hgl2
              have Z2 := cls_cell y2 hgl2
              have U0 := cls_cell u0 hl1
              have U1 := cls_cell u1 hl1
              have U2 := cls_cell u2 hl2
              have U3 := cls_cell u3 hl2
              have V1 := cls_cell v1 hgl2
              have V2 := cls_cell v2 hgl2
              iterate 14 (go_big_quiet_step (fail))
              go_big_quiet_step (first | (go_at_call 26; exact calls_below (rplz c2' _)))
              iterate 12 (go_big_quiet_step (fail))
              go_big_quiet_step (first | (go_at_call 26; exact calls_below (rplz c4' _)))
              iterate 16 (go_big_quiet_step (fail))
              go_big_quiet_step (first | (go_at_call 26; exact calls_below (rplz c6' _)))
              repeat (go_big_quiet_step (fail))
              refine wpQuiet_nil ?_
              rintro w7 ⟨⟨W7, b7⟩, e7⟩
              dsimp only at e7
              subst e7
              have hb7 := ab_trans hb2 b7
              go_wp2_with fail
              go_roundw
              case rel => exact ⟨j + 1, _, by omega, by go_num, rfl, by rw [HSel.out], hb7⟩
              case measure => simp [intOf]; omega
end Go.Proofs.YtclfdagenaaalaaGreat
namespace Go.Proofs.YtclfdagenaaalaaGreat
open Go.RowKit Go.Shelf
set_option linter.unusedVariables false
set_option maxRecDepth 100000

section
variable {ops : Array Oper} {rest : List Oper} {o : Oper} {a : Act} {w : World} {Q : Exit → Act → World → Prop}
/-- A struct into the middle of a block. -/
theorem st_fld (hgd : o.guard = none) {ty : TypeId} {x y : Operand} (ho : o.op = .store ty x y) {b off : Nat} {vs arr : Array Value} {t : TypeId} (hB : Blk w b vs t) (hx : a.eval x = .pointer (some ⟨b, off, none⟩)) (hy : a.eval y = .agg arr) (hi : (Tryz.prog.info? ty).map (·.size) = some arr.size) (hf : off + arr.size ≤ vs.size) (hone : arr.all (·.oneCell') = true)
    (h : ∀ W', Blk W' b (setA vs off arr.toList) t → Chg b w W' → wpList Tryz.prog ops Q rest (a.put o.dst undef) W') : wpList Tryz.prog ops Q (o :: rest) a w := by
  obtain ⟨h1, h2⟩ := blk_setCells arr.toList off w vs hB
  exact wpList_store_mid hgd ty x y ho b off arr hx hy (fun j hj => ⟨by rw [hB.cell, Array.getElem?_eq_getElem (by omega)]; rfl, hB.frozen _⟩) hi hone (h _ h1 h2)
end
theorem ld_EEr {o : Oper} {ρ : Operand → Value} {x : Operand} {b q : Nat} {c : Ent} {w : World} (ho : o.op = .load 79 x) (hx : ρ x = .pointer (some ⟨b, q, none⟩)) (hr : w.rangeAt b q (entA c).toList) : (execOp ρ o).run Tryz.prog w = .ok (.value (.agg (entA c))) w := by
  rw [EE_AG] at hr ⊢
  exact ld_ents ho hx hr
theorem ld_plR {o : Oper} {ρ : Operand → Value} {x : Operand} {b : Nat} {a0 a1 : Int} {t : TypeId} {w : World} (ho : o.op = .load 24 x) (hx : ρ x = .pointer (some ⟨b, 0, none⟩)) (hB : Blk w b #[.int .i64 a0, .int .i64 a1] t) :
    (execOp ρ o).run Tryz.prog w = .ok (.value (Plc a0 a1)) w := by
  unfold execOp
  simp only [ho, hx, Instr.loadAt, Instr.sureAddr, Sem.run_bind, Sem.run_pure, Result.andThen_ok, run_loadVar_row w b t 24 #[.int .i64 a0, .int .i64 a1] (0, 0) _ hB Tryz.underlying24 rfl info_plc]
theorem built_bt4 (ep ln f0 f1 t0 t1 : Int) : Tryz.prog.built 33 [(0, .int .i64 ep), (1, .int .i64 ln), (2, .agg #[.int .i64 f0, .int .i64 f1]), (3, .agg #[.int .i64 t0, .int .i64 t1])] = some #[.int .i64 ep, .int .i64 ln, .int .i64 f0, .int .i64 f1, .int .i64 t0, .int .i64 t1, .slice none 0 0] := by kernel_rfl
theorem sim_perm {S : Bsn} {R : R6} (h : Sim S R) (hok : Okb S) : (idsT R.tk).Perm S.ks := (List.perm_ext_iff_of_nodup (idsT_nodup _) hok.nd).2 fun k => by rw [mem_idsT, h.tk.ks]
theorem sim_lis {S : Bsn} {R : R6} (h : Sim S R) (hok : Okb S) (i : Nat) (pt : Int × Int) : sortP (plsK (i : Int) pt (idsT R.tk)) = lisP S i pt := sortP_uniq (plsK_perm (sim_perm h hok))
/-- The document's cells. -/
def entQ (T : List Tok) (lane : Int) (P : List (Int × Int)) : List Ent := P.map fun p => (p, JL (smK T (lane, p)))
theorem entQ_len (T : List Tok) (lane : Int) (P : List (Int × Int)) : (entQ T lane P).length = P.length := List.length_map _
theorem sim_lisQ {S : Bsn} {R : R6} (h : Sim S R) (hok : Okb S) (i : Nat) (pt : Int × Int) : lisQ R.tk (i : Int) pt 2000 = entQ R.tk (i : Int) (lisP S i pt) := by
  unfold lisQ entQ
  rw [sim_lis h hok, List.take_of_length_le]
  have h1 := lisP_len (S := S) i pt
  have h2 := hok.kl
  have h3 := hok.m1
  omega
/-- The document's batch. -/
def rnB (S : Bsn) (R : R6) (ep : Int) (i mo : Nat) : Btc := ⟨ep, (i : Int), (S.ba[i]?).getD (0, 0), gnT S i mo (clsP S i), entQ R.tk (i : Int) ((lisP S i (clsP S i)).take mo)⟩
theorem rn_sm {S : Bsn} {R : R6} (h : Sim S R) (ep : Int) (i mo : Nat) : SmB (gnB S ep i mo) (rnB S R ep i mo) := by
  refine ⟨rfl, rfl, rfl, rfl, rfl, rfl, entQ_eqL ?_⟩
  show EntQ (gnL S i mo (clsP S i)) (entQ R.tk (i : Int) ((lisP S i (clsP S i)).take mo))
  refine ⟨?_, fun j x y hx hy => ?_⟩
  · rw [gnL_len, entQ_len, List.length_take]
  · unfold gnL entL at hx
    unfold entQ at hy
    rw [List.getElem?_map] at hx hy
    have hj : j < mo := by
      cases e : ((lisP S i (clsP S i)).take mo)[j]? with
      | none => rw [e] at hy; cases hy
      | some p => have := (List.getElem?_eq_some_iff.1 e).1; rw [List.length_take] at this; omega
    have hjl : j < (lisP S i (clsP S i)).length := by
      cases e : ((lisP S i (clsP S i)).take mo)[j]? with
      | none => rw [e] at hy; cases hy
      | some p => have := (List.getElem?_eq_some_iff.1 e).1; rw [List.length_take] at this; omega
    rw [List.getElem?_take_of_lt (by omega)] at hx hy
    cases e : (lisP S i (clsP S i))[j]? with
    | none => rw [e] at hx; cases hx
    | some p =>
      rw [e] at hx hy
      injection hx with hx
      injection hy with hy
      subst hx hy
      exact ⟨rfl, h.tk.cv _⟩
theorem rn_out (p : Value) (c0 c1 ep ln mo : Int) (w : World) (HCl : ∀ V, Below w.heap.size w V → Calls Tryz.prog 41 #[p, .int .i64 ln] V fun e w' => e = .returned (.tuple #[Plc c0 c1, .bool false]) ∧ Below V.heap.size V w') :
    Calls Tryz.prog 19 #[p, .int .i64 ep, .int .i64 ln, .int .i64 mo] w fun e w' => e = .returned (.tuple #[.agg (btA zBt (.slice none 0 0)), .bool false]) ∧ Below w.heap.size w w' := by
  go_enter Tryz.func19, Tryz.ntmps19
  go_upto_region 1 with (refine al_blk rfl rfl (btA zBt (.slice none 0 0)) (zero_bt _) ?_; intro W1 e1 hX1 b1; clear e1)
  go_upto_region 2 with (first
    | (go_at_call 41; refine (HCl _ b1).mono ?_; rintro e W2 ⟨rfl, b2⟩)
    | (refine al_blk rfl rfl #[.int .i64 0, .int .i64 0] (zero_plG _) ?_; intro W3 e3 hC3 b3; clear e3)
    | (refine st_blk rfl rfl hC3 rfl rfl info_plc rfl (by simp [Value.oneCell']) ?_; intro W4 hC4 C4))
  have b24 := ab_chg b3 C4 (Nat.le_refl _)
  have b14 := ab_trans b2 b24
  have hX4 := hX1.keep b14
  have hw4 := ab_trans b1 b14
  clear HCl hX1 b1 b2 b3 C4 hC3 b24 b14
  go_quiet (fail)
  go_wp2_with (first
    | (refine bd_blk rfl rfl _ built_bt0 ?_)
    | (refine st_blk rfl rfl hX4 rfl (vs := btA zBt (.slice none 0 0)) rfl (info_bt zBt none 0 0) rfl (bt_one zBt none 0 0) ?_; intro W9 hX9 C9))
  exact bodyPost_ret (results_c2 rfl _ _ _ 33 _ (0, 0) _ (.bool false) rfl rfl hX9 Tryz.underlying33 rfl (info_bt zBt none 0 0)) rfl ⟨rfl, ab_chg (ab_drewN hw4 _) C9 (Nat.le_refl _)⟩
set_option maxHeartbeats 2000000 in
theorem rn_num (p : Value) (c0 c1 ep ln mo : Int) (w : World) (hno : ep < 1 ∨ mo < 1 ∨ 16 < mo) (HCl : ∀ V, Below w.heap.size w V → Calls Tryz.prog 41 #[p, .int .i64 ln] V fun e w' => e = .returned (.tuple #[Plc c0 c1, .bool true]) ∧ Below V.heap.size V w') :
    Calls Tryz.prog 19 #[p, .int .i64 ep, .int .i64 ln, .int .i64 mo] w fun e w' => e = .returned (.tuple #[.agg (btA zBt (.slice none 0 0)), .bool false]) ∧ Below w.heap.size w w' := by
  rcases (show ep < 1 ∨ (¬ ep < 1 ∧ mo < 1) ∨ (¬ ep < 1 ∧ ¬ mo < 1 ∧ 16 < mo) by omega) with h1 | ⟨h1, h2⟩ | ⟨h1, h2, h3⟩
  all_goals
    clear hno
    try have d1 : decide (ep < 1) = true := decide_eq_true h1
    try have d1 : decide (ep < 1) = false := decide_eq_false h1
    try have d2 : decide (mo < 1) = true := decide_eq_true h2
    try have d2 : decide (mo < 1) = false := decide_eq_false h2
    try have d3 : decide (16 < mo) = true := decide_eq_true h3
    go_enter Tryz.func19, Tryz.ntmps19
    go_upto_region 1 with (refine al_blk rfl rfl (btA zBt (.slice none 0 0)) (zero_bt _) ?_; intro W1 e1 hX1 b1; clear e1)
    go_upto_region 2 with (first
      | (go_at_call 41; refine (HCl _ b1).mono ?_; rintro e W2 ⟨rfl, b2⟩)
      | (refine al_blk rfl rfl #[.int .i64 0, .int .i64 0] (zero_plG _) ?_; intro W3 e3 hC3 b3; clear e3)
      | (refine st_blk rfl rfl hC3 rfl rfl info_plc rfl (by simp [Value.oneCell']) ?_; intro W4 hC4 C4))
    have b24 := ab_chg b3 C4 (Nat.le_refl _)
    have b14 := ab_trans b2 b24
    have hX4 := hX1.keep b14
    have hw4 := ab_trans b1 b14
    clear HCl hX1 b1 b2 b3 C4 hC3 b24 b14
    refine wp_region_below (by kernel_rfl) (by kernel_rfl) ?_
    have HZ := cls_some W4
    repeat (go_big_quiet_step (fail))
    refine wpQuiet_nil ?_
    rintro w7 ⟨⟨W7, b7⟩, e7⟩
    dsimp only at e7
    subst e7
    have hX4 := hX4.keep b7
    have hw7 := ab_trans hw4 b7
    clear HZ
    go_wp2_with (first
      | (refine bd_blk rfl rfl _ built_bt0 ?_)
      | (refine st_blk rfl rfl hX4 rfl (vs := btA zBt (.slice none 0 0)) rfl (info_bt zBt none 0 0) rfl (bt_one zBt none 0 0) ?_; intro W9 hX9 C9))
    exact bodyPost_ret (results_c2 rfl _ _ _ 33 _ (0, 0) _ (.bool false) rfl rfl hX9 Tryz.underlying33 rfl (info_bt zBt none 0 0)) rfl ⟨rfl, ab_chg hw7 C9 (Nat.le_refl _)⟩
set_option maxHeartbeats 1000000 in
theorem rn_less (p g c : Nat) (cb : Nat) (nb : Nat) (i : Nat) (b0 b1 c0 c1 ep mo : Int) (w : World) (h1 : 1 ≤ ep) (h2 : 1 ≤ mo) (h3 : mo ≤ 16) (hi : i < nb) (hp : p < w.heap.size) (hg : g < w.heap.size) (h5 : w.cell? ⟨p, 5, none⟩ = some (.slice (some ⟨g, 0, none⟩) nb cb)) (k0 : w.cell? ⟨g, i * 2, none⟩ = some (.int .i64 b0)) (k1 : w.cell? ⟨g, i * 2 + 1, none⟩ = some (.int .i64 b1)) (hpl : pl b0 b1 c0 c1 = false) (HCl : ∀ V, Below w.heap.size w V → Calls Tryz.prog 41 #[.pointer (some ⟨p, 0, none⟩), .int .i64 (i : Int)] V fun e w' => e = .returned (.tuple #[Plc c0 c1, .bool true]) ∧ Below V.heap.size V w') :
    Calls Tryz.prog 19 #[.pointer (some ⟨p, 0, none⟩), .int .i64 ep, .int .i64 (i : Int), .int .i64 mo] w fun e w' => e = .returned (.tuple #[.agg (btA zBt (.slice none 0 0)), .bool false]) ∧ Below w.heap.size w w' := by
  have e1 : ¬ ep < 1 := by omega
  have e2 : ¬ mo < 1 := by omega
  have e3 : ¬ 16 < mo := by omega
  have d1 : decide (ep < 1) = false := decide_eq_false e1
  have d2 : decide (mo < 1) = false := decide_eq_false e2
  have d3 : decide (16 < mo) = false := decide_eq_false e3
  have hii : (i : Int) < (nb : Int) := by omega
  go_enter Tryz.func19, Tryz.ntmps19
  go_upto_region 1 with (refine al_blk rfl rfl (btA zBt (.slice none 0 0)) (zero_bt _) ?_; intro W1 e1 hX1 b1; clear e1)
  go_upto_region 2 with (first
    | (go_at_call 41; refine (HCl _ b1).mono ?_; rintro e W2 ⟨rfl, b2⟩)
    | (refine al_blk rfl rfl #[.int .i64 0, .int .i64 0] (zero_plG _) ?_; intro W3 e3 hC3 b3; clear e3)
    | (refine st_blk rfl rfl hC3 rfl rfl info_plc rfl (by simp [Value.oneCell']) ?_; intro W4 hC4 C4))
  have b24 := ab_chg b3 C4 (Nat.le_refl _)
  have b14 := ab_trans b2 b24
  have hX4 := hX1.keep b14
  have hw4 := ab_trans b1 b14
  clear HCl hX1 b1 b2 b3 C4 hC3 b24 b14
  have y5 := keep_cell hw4 h5 hp
  have y0 := keep_cell hw4 k0 hg
  have y1 := keep_cell hw4 k1 hg
  have hp4 : p < W4.heap.size := Nat.lt_of_lt_of_le hp hw4.size
  have hg4 : g < W4.heap.size := Nat.lt_of_lt_of_le hg hw4.size
  have x0 : W4.cell? ⟨W2.heap.size, 0, none⟩ = some (.int .i64 c0) := hC4.at rfl
  have x1 : W4.cell? ⟨W2.heap.size, 1, none⟩ = some (.int .i64 c1) := hC4.at rfl
  have hcl := hC4.lt
  refine wp_region_below (by kernel_rfl) (by kernel_rfl) ?_
  have HZ := cls_some W4
  have Y5 := cls_cell y5 hp4
  have Y0 := cls_cell y0 hg4
  have Y1 := cls_cell y1 hg4
  have X0 := cls_cell x0 hcl
  have X1 := cls_cell x1 hcl
  iterate 23 (go_big_quiet_step (fail))
  go_big_quiet_step (first | (go_at_call 26; exact calls_below (rplz hpl _)))
  repeat (go_big_quiet_step (fail))
  refine wpQuiet_nil ?_
  rintro w7 ⟨⟨W7, b7⟩, e7⟩
  dsimp only at e7
  subst e7
  have hX4 := hX4.keep b7
  have hw7 := ab_trans hw4 b7
  clear y5 y0 y1 x0 x1 Y5 Y0 Y1 X0 X1 HZ
  go_wp2_with (first
    | (refine bd_blk rfl rfl _ built_bt0 ?_)
    | (refine st_blk rfl rfl hX4 rfl (vs := btA zBt (.slice none 0 0)) rfl (info_bt zBt none 0 0) rfl (bt_one zBt none 0 0) ?_; intro W9 hX9 C9))
  exact bodyPost_ret (results_c2 rfl _ _ _ 33 _ (0, 0) _ (.bool false) rfl rfl hX9 Tryz.underlying33 rfl (info_bt zBt none 0 0)) rfl ⟨rfl, ab_chg hw7 C9 (Nat.le_refl _)⟩
theorem has_iff {n : Int} {l : Nat} : hasN n l = true ↔ 0 ≤ n ∧ n < (l : Int) := by unfold hasN; exact decide_eq_true_iff
theorem rnext17_no {B : Nat} {K : Rk} {R : R6} {S : Bsn} (ep ln mo : Int) (w : World) (h : Rq w B K R) (hs : Sim S R) (hok : Okb S) (hn : gnI S ep ln mo = false) :
    Calls Tryz.prog 19 #[r6ptr K, .int .i64 ep, .int .i64 ln, .int .i64 mo] w fun e w' => e = .returned (.tuple #[.agg (btA zBt (.slice none 0 0)), .bool false]) ∧ Below w.heap.size w w' := by
  by_cases hh : hasN ln S.ba.length = true
  · obtain ⟨l0, l1⟩ := has_iff.1 hh
    obtain ⟨i, rfl⟩ : ∃ i : Nat, ln = (i : Int) := ⟨ln.toNat, by omega⟩
    have HCl := fun V (hV : Below w.heap.size w V) => rclosed16_at i V (h.keep hV) hs hok (by omega)
    cases hb : lmB S.fl
    · rw [hb] at HCl
      exact rn_out _ _ _ ep _ mo w HCl
    · rw [hb] at HCl
      by_cases hnum : ep < 1 ∨ mo < 1 ∨ 16 < mo
      · exact rn_num _ _ _ ep _ mo w hnum HCl
      · obtain ⟨p, hp⟩ : ∃ p, S.ba[i]? = some p := ⟨S.ba[i]'(by omega), List.getElem?_eq_getElem (by omega)⟩
        have hpR : R.ba[i]? = some p := by rw [hs.ba]; exact hp
        have hpl : pl p.1 p.2 (clsP S i).1 (clsP S i).2 = false := by
          unfold gnI at hn
          rw [hh, hb, decide_eq_true (show 1 ≤ ep ∧ 1 ≤ mo ∧ mo ≤ 16 by omega), Int.toNat_natCast, hp] at hn
          simpa using hn
        have c5 := h.cells.2.2.2.2.2.1
        have k0 := h.be.cell hpR (i := 0) (u := .int .i64 p.1) rfl
        have k1 := h.be.cell hpR (i := 1) (u := .int .i64 p.2) rfl
        rw [Nat.add_zero] at k0
        exact rn_less K.b K.gb 0 K.cb R.ba.length i p.1 p.2 _ _ ep mo w (by omega) (by omega) (by omega) (by rw [hs.ba]; omega) h.blk.lt h.be.lt c5 k0 k1 hpl HCl
  · have HCl := fun V (hV : Below w.heap.size w V) => rclosed16_no ln V (h.keep hV) (by rw [hs.ba]; have := mt has_iff.2 hh; omega)
    exact rn_out _ _ _ ep ln mo w HCl
end Go.Proofs.YtclfdagenaaalaaGreat
namespace Go.Proofs.YtclfdagenaaalaaGreat
open Go.RowKit Go.Shelf
set_option linter.unusedVariables false
set_option maxRecDepth 100000

theorem world_trunc (W : World) {n : Nat} (h : n ≤ W.heap.size) : ∃ A : World, A.heap.size = n ∧ Below A.heap.size A W := by
  refine ⟨{ W with heap := W.heap.extract 0 n }, by simp; omega, ⟨rfl, rfl, rfl, by simp; omega, fun i hi => ?_⟩⟩
  have hi' : i < n := by simp at hi; omega
  show W.heap[i]? = (W.heap.extract 0 n)[i]?
  rw [Array.getElem?_extract]
  simp
  omega
theorem gnI_yes {S : Bsn} {ep : Int} {i mo : Nat} (h : gnI S ep (i : Int) (mo : Int) = true) : (1 ≤ ep ∧ 1 ≤ mo ∧ mo ≤ 16) ∧ i < S.ba.length ∧ lmB S.fl = true ∧ ∃ p, S.ba[i]? = some p ∧ pl p.1 p.2 (clsP S i).1 (clsP S i).2 = true := by
  unfold gnI at h
  simp only [Bool.and_eq_true, decide_eq_true_eq, Int.toNat_natCast] at h
  obtain ⟨⟨⟨h1, h2⟩, h3⟩, h4⟩ := h
  have hi := (has_iff.1 h2).2
  refine ⟨by omega, by omega, h3, ?_⟩
  obtain ⟨p, hp⟩ : ∃ p, S.ba[i]? = some p := ⟨S.ba[i]'(by omega), List.getElem?_eq_getElem (by omega)⟩
  rw [hp] at h4
  exact ⟨p, hp, h4⟩
theorem lisP_J {S : Bsn} (hok : Okb S) {i : Nat} {pt p : Int × Int} (h : p ∈ lisP S i pt) : J64 p.1 ∧ J64 p.2 := by
  have := (hok.kk _ (lisP_mem.1 h).1).1
  exact ⟨this.2.1, this.2.2⟩
set_option maxHeartbeats 8000000 in
theorem rnext17_yes {B : Nat} {K : Rk} {R : R6} {S : Bsn} (ep : Int) (i mo : Nat) (w : World) (h : Rq w B K R) (hs : Sim S R) (hok : Okb S) (hT : R.tk.length ≤ 2000) (hn : gnI S ep (i : Int) (mo : Int) = true) :
    Calls Tryz.prog 19 #[r6ptr K, .int .i64 ep, .int .i64 (i : Int), .int .i64 (mo : Int)] w fun e w' => ∃ v, e = .returned (.tuple #[.agg (btA (rnB S R ep i mo) v), .bool true]) ∧ EO EE 79 w' w.heap.size v (rnB S R ep i mo).en ∧ Below w.heap.size w w' := by
  obtain ⟨⟨ep1, mo1, mo16⟩, hi, hb, ⟨b0, b1⟩, hp, hpl⟩ := gnI_yes hn
  have HCl := fun V (hV : Below w.heap.size w V) => rclosed16_at i V (h.keep hV) hs hok hi
  rw [hb] at HCl
  have HLi : Hid (∀ V, Below w.heap.size w V → Calls Tryz.prog 42 #[r6ptr K, .int .i64 (i : Int), Plc (clsP S i).1 (clsP S i).2, .int .i64 2000] V fun e w' => ∃ v, e = .returned v ∧ EO EE 79 w' V.heap.size v (entQ R.tk (i : Int) (lisP S i (clsP S i))) ∧ Below V.heap.size V w') := fun V hV => by
    have hV' := h.keep hV
    have := rlist16_any K.b K.vt R.tk (i : Int) (clsP S i) 2000 V hV'.blk.lt hV'.cells.2.2.2.2.2.2 hV'.te.er hT hs.tk.ft
    rw [show (2000 : Int).toNat = 2000 from rfl, sim_lisQ hs hok] at this
    exact this
  have hpR : R.ba[i]? = some (b0, b1) := by rw [hs.ba]; exact hp
  have c5 := h.cells.2.2.2.2.2.1
  have k0 := h.be.cell hpR (i := 0) (u := .int .i64 b0) rfl
  have k1 := h.be.cell hpR (i := 1) (u := .int .i64 b1) rfl
  rw [Nat.add_zero, show E2.k = 2 from rfl] at k0
  rw [show E2.k = 2 from rfl] at k1
  have hbl : R.ba.length = S.ba.length := by rw [hs.ba]
  rw [hbl] at c5
  have hpb := h.blk.lt
  have hgb := h.be.lt
  have HRn : Hid (∀ v : Value, ∀ t0 t1 : Int, gnT S i mo (clsP S i) = (t0, t1) → btA (rnB S R ep i mo) v = #[.int .i64 ep, .int .i64 (i : Int), .int .i64 b0, .int .i64 b1, .int .i64 t0, .int .i64 t1, v]) := fun v t0 t1 ht => by
    unfold rnB btA
    rw [hp, ht]
    rfl
  have HEn : Hid ((rnB S R ep i mo).en = (entQ R.tk (i : Int) (lisP S i (clsP S i))).take mo) := by show entQ _ _ (List.take _ _) = _; unfold entQ; rw [List.map_take]
  have HTl : Hid ((lisP S i (clsP S i)).length ≤ mo → gnT S i mo (clsP S i) = clsP S i) := fun h => by unfold gnT; rw [if_pos h]
  have HTm : Hid (∀ p, ¬ (lisP S i (clsP S i)).length ≤ mo → (lisP S i (clsP S i))[mo - 1]? = some p → gnT S i mo (clsP S i) = (afW p.1 p.2, afK p.1 p.2)) := fun p h hp => by unfold gnT; rw [if_neg h, List.getD_eq_getElem?_getD, hp]; rfl
  have HJp : Hid (∀ p ∈ lisP S i (clsP S i), J64 p.1 ∧ J64 p.2) := fun p hp => lisP_J hok hp
  have hPn : (lisP S i (clsP S i)).length ≤ 1024 := by
    have h1 := lisP_len (S := S) i (clsP S i)
    have h2 := hok.kl
    have h3 := hok.m1
    omega
  have HDat : Hid (∀ j (x : Ent), (entQ R.tk (i : Int) (lisP S i (clsP S i)))[j]? = some x → (lisP S i (clsP S i))[j]? = some x.1) := fun j x hx => by
    unfold entQ at hx
    rw [List.getElem?_map] at hx
    cases e : (lisP S i (clsP S i))[j]? with
    | none => rw [e] at hx; cases hx
    | some q => rw [e] at hx; injection hx with hx; rw [← hx]
  have hDn : (entQ R.tk (i : Int) (lisP S i (clsP S i))).length = (lisP S i (clsP S i)).length := entQ_len _ _ _
  clear h hs hok hT hn hp hpR hbl hb
  generalize btA (rnB S R ep i mo) = BT at *
  generalize (rnB S R ep i mo).en = EN at *
  generalize entQ R.tk (i : Int) (lisP S i (clsP S i)) = D at *
  generalize gnT S i mo (clsP S i) = TT at *
  generalize lisP S i (clsP S i) = P at *
  generalize clsP S i = C at *
  generalize S.ba.length = nb at *
  generalize hnD : D.length = n at *
  rw [← hDn] at HTl HTm hPn
  clear hDn
  obtain ⟨c0, c1⟩ := C
  obtain ⟨p, gn, cn, gm, cm, g, cb, vr, vt, us⟩ := K
  try dsimp only at *
  have e1 : ¬ ep < 1 := by omega
  have e2 : ¬ (mo : Int) < 1 := by omega
  have e3 : ¬ 16 < (mo : Int) := by omega
  have d1 : decide (ep < 1) = false := decide_eq_false e1
  have d2 : decide ((mo : Int) < 1) = false := decide_eq_false e2
  have d3 : decide (16 < (mo : Int)) = false := decide_eq_false e3
  have hii : (i : Int) < (nb : Int) := by omega
  go_enter Tryz.func19, Tryz.ntmps19
  go_upto_region 1 with (refine al_blk rfl rfl (btA zBt (.slice none 0 0)) (zero_bt _) ?_; intro W1 e1 hX1 b1'; clear e1)
  go_upto_region 2 with (first
    | (go_at_call 41; refine (HCl _ b1').mono ?_; rintro e W2 ⟨rfl, b2⟩)
    | (refine al_blk rfl rfl #[.int .i64 0, .int .i64 0] (zero_plG _) ?_; intro W3 e3 hC3 b3; clear e3)
    | (refine st_blk rfl rfl hC3 rfl rfl info_plc rfl (by simp [Value.oneCell']) ?_; intro W4 hC4 C4))
  have b24 := ab_chg b3 C4 (Nat.le_refl _)
  have b14 := ab_trans b2 b24
  have hX4 := hX1.keep b14
  have hw4 := ab_trans b1' b14
  have hlo2 : w.heap.size < W2.heap.size := by have := b2.size; have := hX1.lt; omega
  clear HCl hX1 b1' b2 b3 C4 hC3 b24 b14
  have y5 := keep_cell hw4 c5 hpb
  have y0 := keep_cell hw4 k0 hgb
  have y1 := keep_cell hw4 k1 hgb
  have hp4 : p < W4.heap.size := Nat.lt_of_lt_of_le hpb hw4.size
  have hg4 : g < W4.heap.size := Nat.lt_of_lt_of_le hgb hw4.size
  have x0 : W4.cell? ⟨W2.heap.size, 0, none⟩ = some (.int .i64 c0) := hC4.at rfl
  have x1 : W4.cell? ⟨W2.heap.size, 1, none⟩ = some (.int .i64 c1) := hC4.at rfl
  have hcl := hC4.lt
  refine wp_region_below (by kernel_rfl) (by kernel_rfl) ?_
  have HZ := cls_some W4
  have Y5 := cls_cell y5 hp4
  have Y0 := cls_cell y0 hg4
  have Y1 := cls_cell y1 hg4
  have X0 := cls_cell x0 hcl
  have X1 := cls_cell x1 hcl
  iterate 23 (go_big_quiet_step (fail))
  go_big_quiet_step (first | (go_at_call 26; exact calls_below (rplz hpl _)))
  repeat (go_big_quiet_step (fail))
  refine wpQuiet_nil ?_
  rintro W7 ⟨⟨W7', b7⟩, e7⟩
  dsimp only at e7
  subst e7
  have hX7 := hX4.keep b7
  have hlo7 : W2.heap.size < W7.heap.size := Nat.lt_of_lt_of_le hC4.lt b7.size
  have hw7 := ab_trans hw4 b7
  have hC7 := hC4.keep b7
  have HY7 : Hid (∀ V, Below W7.heap.size W7 V → V.cell? ⟨p, 5, none⟩ = some (.slice (some ⟨g, 0, none⟩) nb cb) ∧ V.cell? ⟨g, i * 2, none⟩ = some (.int .i64 b0) ∧ V.cell? ⟨g, i * 2 + 1, none⟩ = some (.int .i64 b1) ∧ Blk V W2.heap.size #[.int .i64 c0, .int .i64 c1] 24) := fun V hV => ⟨keep_cell (ab_trans b7 hV) y5 hp4, keep_cell (ab_trans b7 hV) y0 hg4, keep_cell (ab_trans b7 hV) y1 hg4, hC7.keep hV⟩
  clear y5 y0 y1 x0 x1 Y5 Y0 Y1 X0 X1 HZ hX4 hw4 hC4 b7 k0 k1 c5 hp4 hg4 hcl d1 d2 d3
  go_upto_region 4 with fail
  refine wp_region_held_drew (S := fun w' => Below W7.heap.size W7 w') (by kernel_rfl) (ab_drew (Below.refl _ _)) (fun hHeld => ?_)
  refine takeH (i := 0) (some 48) rfl rfl (by kernel_rfl) (by kernel_rfl) (by kernel_rfl) (fun _ _ _ h => h) (by rfl) (fun w hSw => by (try dsimp only at hSw); go_simp; try rfl) hHeld ?_
  go_frame
  refine takeH (i := 1) (some 49) rfl rfl (by kernel_rfl) (by kernel_rfl) (by kernel_rfl) (fun _ _ _ h => h) (by rfl) (fun w hSw => by (try dsimp only at hSw); go_simp; try rfl) hHeld ?_
  go_frame
  refine takeH (i := 2) (some 50) rfl rfl (by kernel_rfl) (by kernel_rfl) (by kernel_rfl) (fun _ _ _ h => h) (by rfl) (fun w hSw => by (try dsimp only at hSw); go_simp; try rfl) hHeld ?_
  go_frame
  refine takeH (i := 3) (some 51) rfl rfl (by kernel_rfl) (by kernel_rfl) (by kernel_rfl) (fun _ _ _ h => h) (by rfl) (fun w hSw => by (try dsimp only at hSw); go_simp; try rfl) hHeld ?_
  go_frame
  refine takeH (i := 4) (some 52) rfl rfl (by kernel_rfl) (by kernel_rfl) (by kernel_rfl) (fun _ _ _ h => h) (by rfl) (fun w hSw => by (try dsimp only at hSw); go_simp; try rfl) hHeld ?_
  go_frame
  refine takeH (i := 5) (some 53) rfl rfl (by kernel_rfl) (by kernel_rfl) (by kernel_rfl) (fun _ _ _ h => h) (by rfl) (fun w hSw => by (try dsimp only at hSw); (have q5 := (HY7.out _ hSw).1; go_simp; try rfl)) hHeld ?_
  go_frame
  refine takeH (i := 6) (some 54) rfl rfl (by kernel_rfl) (by kernel_rfl) (by kernel_rfl) (fun _ _ _ h => h) (by rfl) (fun w hSw => by (try dsimp only at hSw); go_simp; try rfl) hHeld ?_
  go_frame
  refine takeH (i := 7) (some 55) rfl rfl (by kernel_rfl) (by kernel_rfl) (by kernel_rfl) (fun _ _ _ h => h) (by rfl) (fun w hSw => by (try dsimp only at hSw); go_simp; try rfl) hHeld ?_
  go_frame
  refine takeH (i := 8) (some 56) rfl rfl (by kernel_rfl) (by kernel_rfl) (by kernel_rfl) (fun _ _ _ h => h) (by rfl) (fun w hSw => by (try dsimp only at hSw); (obtain ⟨-, q0, q1, -⟩ := HY7.out _ hSw; go_simp; try rfl)) hHeld ?_
  go_frame
  refine takeH (i := 9) (some 57) rfl rfl (by kernel_rfl) (by kernel_rfl) (by kernel_rfl) (fun _ _ _ h => h) (by rfl) (fun w hSw => by (try dsimp only at hSw); exact ld_plR rfl rfl (HY7.out _ hSw).2.2.2) hHeld ?_
  go_frame
  refine takeH (i := 10) (some 58) rfl rfl (by kernel_rfl) (by kernel_rfl) (by kernel_rfl) (fun _ _ _ h => h) (by rfl) (fun w hSw => by (try dsimp only at hSw); exact bd_run rfl (built_bt4 ep (i : Int) b0 b1 c0 c1) (by simp only [List.map_toArray, List.map_cons, List.map_nil]; rfl) _) hHeld ?_
  go_frame
  refine wpAnyH_ready (rs := [11]) (by kernel_rfl) (by simp) (AllReadyH.cons rfl (fun K hK => ?_) AllReadyH.nil)
  rw [if_pos (by rfl)]
  refine alW17 (some 12) rfl rfl (btA zBt (.slice none 0 0)) (zero_bt _) fun W5 hX5 b5 => ?_
  have hs5 := hHeld.size
  refine hK.out _ _ (ab_trans hHeld b5) (fun hHeld => ?_)
  clear hK K
  refine wpAnyH_ready (rs := [12]) (by kernel_rfl) (by simp) (AllReadyH.cons rfl (fun K hK => ?_) AllReadyH.nil)
  rw [if_pos (by rfl)]
  refine stW none rfl rfl hX5 rfl (vs := #[.int .i64 ep, .int .i64 (i : Int), .int .i64 b0, .int .i64 b1, .int .i64 c0, .int .i64 c1, .slice none 0 0]) rfl (info_bt ⟨ep, (i : Int), (b0, b1), (c0, c1), []⟩ none 0 0) rfl (bt_one ⟨ep, (i : Int), (b0, b1), (c0, c1), []⟩ none 0 0) fun W9 hX9 C9 => ?_
  have hb9 : Below W7.heap.size W7 W9 := ab_chg hHeld C9 hs5
  refine hK.out _ _ hb9 (fun hHeld => ?_)
  clear hK K
  refine wpAnyH_done (by kernel_rfl) ?_ _
  have hX79 := hX7.keep hb9
  have hw9 := ab_trans hw7 hb9
  have hC9 := (HY7.out _ hb9).2.2.2
  clear hHeld C9 hX5 b5 hb9 HY7 hX7 hw7 hC7
  have hxge : W7.heap.size ≤ _ := hs5
  go_upto_region 6 with (first
    | (refine ld_blk rfl rfl hC9 rfl _ Tryz.underlying24 rfl info_plc ?_)
    | (go_at_call 42; refine (HLi.out _ hw9).mono ?_; rintro e W10 ⟨v10, rfl, hL10, b10⟩))
  obtain ⟨ql, cl, el⟩ := hL10.form
  rw [hnD] at el
  subst el
  have hX10 : Blk W10 W7.heap.size #[.int .i64 ep, .int .i64 (i : Int), .int .i64 b0, .int .i64 b1, .int .i64 c0, .int .i64 c1, .slice none 0 0] 33 := hX9.keep b10
  have hXr := hX79.keep b10
  have hw10 := ab_trans hw9 b10
  have hxl9 := hX9.lt
  clear hC9 HLi hX9 hX79 hw9 b10
  have HXr : Hid (Blk W10 w.heap.size (btA zBt (.slice none 0 0)) 33) := hXr
  clear hXr
  have hxge2 : w.heap.size < W7.heap.size ∧ W7.heap.size < W10.heap.size := ⟨Nat.lt_trans hlo2 hlo7, hX10.lt⟩
  clear hs5 hxge hxl9
  generalize W7.heap.size = xb at *
  obtain ⟨m0, hm1, hm2, hm3⟩ : ∃ m0, m0 ≤ mo ∧ m0 ≤ n ∧ (mo ≤ m0 ∨ n ≤ m0) := ⟨min mo n, by omega, by omega, by omega⟩
  have hLlt : ∀ gk, (Value.slice ql n cl).ownBlock = some gk → gk < W10.heap.size := fun gk hgk => (World.ownsRow.lt hL10 gk hgk).2
  have hkx : kindR W10 xb 33 := hX10.kindR
  have hL0 : EO EE 79 W10 0 (.slice ql n cl) D := eo_lessA hL10 (Nat.zero_le _)
  have HL : Hid (∀ V, Frm (fun j => j = xb) W10 V → ER EE V (.slice ql n cl) D) := fun V hV => (show EO EE 79 V 0 (.slice ql n cl) D from own_at hL0 (fun gk hgk => hV.other gk (hLlt gk hgk) (fun e => absurd (hkx.uniq (e ▸ eo_kindA hL0 hgk)) (by decide)))).er
  have HXw : Hid (∀ V, Frm (fun j => j = xb) W10 V → Blk V w.heap.size (btA zBt (.slice none 0 0)) 33) := fun V hV => HXr.out.frm hV (by omega)
  have hmm : m0 ≤ 16 := by omega
  clear hL10 hLlt hkx hL0 HXr
  go_wp2_with fail
  go_loopw [14] (fun z wr => ∃ (k : Nat) (v : Value), k ≤ m0 ∧ z = .int .i64 (k : Int) ∧ Blk wr xb #[.int .i64 ep, .int .i64 (i : Int), .int .i64 b0, .int .i64 b1, .int .i64 c0, .int .i64 c1, v] 33 ∧ EO EE 79 wr W10.heap.size v (D.take k) ∧ Frm (fun j => j = xb) W10 wr) (fun z _ => m0 - (intOf z).toNat)
  case atStart => exact ⟨0, _, by omega, rfl, hX10, eo_nil _ _ _ _, Frm.refl _ _⟩
  case round =>
    clear hX10
    obtain ⟨k, v, hk, rfl, hX, hO, hF⟩ := hrel
    obtain ⟨qv, cv, ev⟩ := hO.form
    rw [List.length_take, hnD, show min k n = k by omega] at ev
    subst ev
    by_cases ck : k = m0
    · subst ck
      have HD0 : Hid (D.take k = EN) := by
        show _ = _
        rw [HEn.out]
        rcases hm3 with h | h
        · rw [show k = mo by omega]
        · rw [List.take_of_length_le (by omega), List.take_of_length_le (by omega)]
      have hLr := HL.out wr hF
      have hXwr := HXw.out wr hF
      have hwr : Below w.heap.size w wr := hw10.trans (hF.below hw10.size (fun j e => by omega))
      have hO' : EO EE 79 wr w.heap.size (.slice qv k cv) EN := by rw [← HD0.out]; exact eo_lessA hO hw10.size
      have hwx : w.heap.size ≠ xb := by omega
      by_cases cm : mo < n
      · obtain ⟨m1, hmo1⟩ : ∃ m1, mo = m1 + 1 := ⟨mo - 1, by omega⟩
        have hm1n : m1 < n := by omega
        have f1 : (k : Int) < (n : Int) := by omega
        have f2 : ¬ (k : Int) < (mo : Int) := by omega
        have hsub : (mo : Int) - 1 = (m1 : Int) := by omega
        obtain ⟨x, hx⟩ : ∃ x, D[m1]? = some x := ⟨D[m1]'(by omega), List.getElem?_eq_getElem (by omega)⟩
        have hPx := HDat.out m1 x hx
        have hJ := HJp.out x.1 (List.mem_of_getElem? hPx)
        have hTT := HTm.out x.1 (by omega) (by rw [hmo1, Nat.add_sub_cancel]; exact hPx)
        obtain ⟨gl, ol, rfl, hgl, hrl⟩ := er_range hLr (by omega)
        have z0 := hrl m1 x hx 0 _ rfl
        have z1 := hrl m1 x hx 1 _ rfl
        rw [Nat.add_zero] at z0
        obtain ⟨⟨xa, xk⟩, xc⟩ := x
        try dsimp only at z0 z1 hJ hTT
        have hmi : (m1 : Int) < (n : Int) := by omega
        have hmn : (mo : Int) < (n : Int) := by omega
        have HBT := HRn.out (.slice qv k cv) _ _ hTT
        have HBT2 : Hid (BT (.slice qv k cv) = #[.int .i64 ep, .int .i64 (i : Int), .int .i64 b0, .int .i64 b1, .int .i64 (afW xa xk), .int .i64 (afK xa xk), .slice qv k cv]) := HBT
        clear hLr hrl hx hPx HBT hTT HL HXw hO HEn HRn HTl HTm HJp HDat hmo1 hm3
        go_upto_region 12 with (first
          | (go_at_call 43; refine (rafter_any xa xk _ hJ.1.1 hJ.1.2 hJ.2.1 hJ.2.2).mono ?_; rintro e Y1 ⟨rfl, d1⟩; have hX1 := hX.keep d1)
          | (refine st_fld rfl rfl hX1 (off := 4) (arr := #[.int .i64 (afW xa xk), .int .i64 (afK xa xk)]) rfl rfl info_plc (by show 4 + 2 ≤ 7; omega) (by simp [Value.oneCell']) ?_; intro Y2 hX2' C2))
        have hX2 : Blk Y2 xb #[.int .i64 ep, .int .i64 (i : Int), .int .i64 b0, .int .i64 b1, .int .i64 (afW xa xk), .int .i64 (afK xa xk), .slice qv k cv] 33 := hX2'
        have hXw2 := (hXwr.keep d1).chg C2 hwx
        have hO2 : EO EE 79 Y2 w.heap.size (.slice qv k cv) EN := own_at (hO'.keep d1) (fun g' hg' => C2.other g' (fun e => absurd ((eo_kindA (hO'.keep d1) hg').uniq (e ▸ hX1.kindR)) (by decide)))
        have hw2 := ab_chg (ab_trans hwr d1) C2 (Nat.le_of_lt hxge2.1)
        clear hX2' hX1 C2 d1 hO' hXwr hwr hX z0 z1 hsub hmn hmi
        go_wp2_with (first
          | (refine ld_blk rfl rfl hX2 rfl _ Tryz.underlying33 rfl (info_bt ⟨ep, (i : Int), (b0, b1), (afW xa xk, afK xa xk), []⟩ qv k cv) ?_)
          | (refine st_blk rfl rfl hXw2 rfl (vs := #[.int .i64 ep, .int .i64 (i : Int), .int .i64 b0, .int .i64 b1, .int .i64 (afW xa xk), .int .i64 (afK xa xk), .slice qv k cv]) rfl (info_bt ⟨ep, (i : Int), (b0, b1), (afW xa xk, afK xa xk), []⟩ qv k cv) rfl (bt_one ⟨ep, (i : Int), (b0, b1), (afW xa xk, afK xa xk), []⟩ qv k cv) ?_; intro Y3 hY3 C3))
        have hO3 : EO EE 79 Y3 w.heap.size (.slice qv k cv) EN := own_at hO2 (fun g' hg' => C3.other g' (fun e => absurd ((eo_kindA hO2 hg').uniq (e ▸ hXw2.kindR)) (by decide)))
        exact bodyPost_ret (results_c2 rfl _ _ _ 33 _ (0, 0) _ (.bool true) rfl rfl hY3 Tryz.underlying33 rfl (info_bt ⟨ep, (i : Int), (b0, b1), (afW xa xk, afK xa xk), []⟩ qv k cv)) rfl ⟨_, by rw [HBT2.out], hO3, ab_chg hw2 C3 (Nat.le_refl _)⟩
      · have hTT := HTl.out (by omega)
        have HBT2 : Hid (BT (.slice qv k cv) = #[.int .i64 ep, .int .i64 (i : Int), .int .i64 b0, .int .i64 b1, .int .i64 c0, .int .i64 c1, .slice qv k cv]) := HRn.out (.slice qv k cv) _ _ hTT
        have hmn : ¬ (mo : Int) < (n : Int) := by omega
        have f1 : ¬ (k : Int) < (n : Int) := by omega
        clear hLr hTT HL HXw hO HEn HRn HTl HTm HJp HDat hm3
        go_wp2_with (first
          | (refine ld_blk rfl rfl hX rfl _ Tryz.underlying33 rfl (info_bt ⟨ep, (i : Int), (b0, b1), (c0, c1), []⟩ qv k cv) ?_)
          | (refine st_blk rfl rfl hXwr rfl (vs := #[.int .i64 ep, .int .i64 (i : Int), .int .i64 b0, .int .i64 b1, .int .i64 c0, .int .i64 c1, .slice qv k cv]) rfl (info_bt ⟨ep, (i : Int), (b0, b1), (c0, c1), []⟩ qv k cv) rfl (bt_one ⟨ep, (i : Int), (b0, b1), (c0, c1), []⟩ qv k cv) ?_; intro Y3 hY3 C3))
        have hO3 : EO EE 79 Y3 w.heap.size (.slice qv k cv) EN := own_at hO' (fun g' hg' => C3.other g' (fun e => absurd ((eo_kindA hO' hg').uniq (e ▸ hXwr.kindR)) (by decide)))
        exact bodyPost_ret (results_c2 rfl _ _ _ 33 _ (0, 0) _ (.bool true) rfl rfl hY3 Tryz.underlying33 rfl (info_bt ⟨ep, (i : Int), (b0, b1), (c0, c1), []⟩ qv k cv)) rfl ⟨_, by rw [HBT2.out], hO3, ab_chg hwr C3 (Nat.le_refl _)⟩
    · have hki : (k : Int) < (n : Int) := by omega
      have hkm : (k : Int) < (mo : Int) := by omega
      obtain ⟨x, hx⟩ : ∃ x, D[k]? = some x := ⟨D[k], List.getElem?_eq_getElem (by omega)⟩
      have HTk : Hid (D.take (k + 1) = D.take k ++ [x]) := by show _ = _; rw [List.take_add_one, hx]; rfl
      obtain ⟨gl, ol, rfl, hgl, hrl⟩ := er_range (HL.out wr hF) (by omega)
      have HR : Hid (∀ V, Below wr.heap.size wr V → ∀ j c, (entA x).toList[j]? = some c → V.cell? ⟨gl, ol + k * 76 + j, none⟩ = some c) := fun V hV j c hc => keep_cell hV (hrl k x hx j c hc) hgl
      have HX2 : Hid (∀ V, Below wr.heap.size wr V → V.cell? ⟨xb, 6, none⟩ = some (.slice qv k cv)) := fun V hV => (hX.keep hV).at rfl
      have hDk : (D.take k).length = k := by rw [List.length_take, hnD]; omega
      clear hrl hx
      go_upto_region 9 with fail
      refine region_L 7 (S := fun w' => Below wr.heap.size wr w') (by kernel_rfl) ((Below.refl _ _).drew) (fun hHeld => ?_)
      refine takeP (i := 0) (some 74) (by rfl) rfl rfl (by kernel_rfl) (by kernel_rfl) (by kernel_rfl) (fun _ _ _ h => h) (by rfl) (fun w => by go_simp; try rfl) hHeld ?_
      go_frame
      refine takeL (i := 1) [7] (some 75) (by rfl) rfl rfl (by kernel_rfl) (by kernel_rfl) (by kernel_rfl) (by kernel_rfl) (fun _ _ _ h => h) (by rfl) (fun w hSw => by (try dsimp only at hSw); (have q6 := HX2.out _ hSw; go_simp; try rfl)) hHeld ?_
      go_frame
      refine takeP (i := 2) (some 76) (by rfl) rfl rfl (by kernel_rfl) (by kernel_rfl) (by kernel_rfl) (fun _ _ _ h => h) (by rfl) (fun w => by go_simp; try rfl) hHeld ?_
      go_frame
      refine takeP (i := 3) (some 77) (by rfl) rfl rfl (by kernel_rfl) (by kernel_rfl) (by kernel_rfl) (fun _ _ _ h => h) (by rfl) (fun w => by go_simp; try rfl) hHeld ?_
      go_frame
      refine takeP (i := 4) (some 78) (by rfl) rfl rfl (by kernel_rfl) (by kernel_rfl) (by kernel_rfl) (fun _ _ _ h => h) (by rfl) (fun w => by go_simp; try rfl) hHeld ?_
      go_frame
      refine takeL (i := 5) [6, 7] (some 79) (by rfl) rfl rfl (by kernel_rfl) (by kernel_rfl) (by kernel_rfl) (by kernel_rfl) (fun _ _ _ h => h) (by rfl) (fun w hSw => by (try dsimp only at hSw); exact ld_EEr rfl rfl (HR.out _ hSw)) hHeld ?_
      go_frame
      refine anyL_ready (rs := [6]) (by kernel_rfl) (by simp) (AllL.cons rfl (fun K hK => ?_) AllL.nil)
      rw [if_pos (by rfl)]
      refine bsEW (E := EE) (some 80) rfl rfl x (by simp only [List.map_toArray, List.map_cons, List.map_nil]; rfl) (bs_ent1 x) fun W12 hO12 b12 => ?_
      have hHo := hO.keep (ab_trans hHeld b12)
      refine hK.out _ _ (ab_trans hHeld b12) (fun hHeld => ?_)
      clear hK K
      try go_frame
      have hF12 : Frm (fun j => j = xb) W10 W12 := hF.trans (frm_below hHeld)
      have hX12 := hX.keep hHeld
      refine anyL_ready (rs := [7]) (by kernel_rfl) (by simp) (AllL.last rfl (by kernel_rfl) (fun K hK => ?_))
      rw [if_pos (by rfl)]
      obtain ⟨TA, hTA, bTA⟩ := world_trunc W12 (n := W10.heap.size) hF12.size
      have hOl : ∀ j, (Value.slice qv k cv).ownBlock = some j → W10.heap.size ≤ j := fun j hj => (World.ownsRow.lt hHo j hj).1
      rw [← hTA] at hHo
      refine appEW (E := EE) TA (some 81) rfl rfl Tryz.underlying31 infoEntB (by show (entA zEnt).size = 76; exact entA_size _) rfl hHo rfl hO12.er (by rw [hDk, List.length_singleton]; omega) (by rw [hDk, List.length_singleton]; omega) bTA fun v13 W13 hO13 b13 hg13 => ?_
      rw [hTA, ← HTk.out] at hO13
      have e13 := grown_other hHo hg13 hX12.kindR (by decide)
      have hX13 : Blk W13 xb #[.int .i64 ep, .int .i64 (i : Int), .int .i64 b0, .int .i64 b1, .int .i64 c0, .int .i64 c1, .slice qv k cv] 33 := by unfold Blk; rw [e13]; exact hX12
      have hF13 : Frm (fun j => j = xb) W10 W13 := hF12.young (Y := fun j => (Value.slice qv k cv).ownBlock = some j) ⟨hg13.os, hg13.tape, hg13.output, hg13.size, fun j hj hx => hg13.block j hj (fun e => hx e.symm)⟩ (fun j hj hx => by have := hOl j hx; omega)
      obtain ⟨q13, c13, e13'⟩ := hO13.form
      rw [List.length_take, hnD, show min (k + 1) n = k + 1 by omega] at e13'
      subst e13'
      have d13 : W13.cell? ⟨xb, 6, none⟩ = some (.slice qv k cv) := hX13.at rfl
      have f13 := hX13.frozen 6
      refine hK.out _ _ ?_
      clear hK K e13 hX12 hF12 hHo hO12 b12 hHeld hg13 b13 bTA hOl HR HX2
      try go_frame
      refine anyL_ready (rs := [8]) (by kernel_rfl) (by simp) (AllL.free rfl (by kernel_rfl) (fun K hK => ?_))
      go_simp
      refine hK.out _ _ ?_
      clear hK K
      try go_frame
      refine anyL_ready (rs := [9]) (by kernel_rfl) (by simp) (AllL.free rfl (by kernel_rfl) (fun K hK => ?_))
      go_simp
      refine hK.out _ _ ?_
      clear hK K
      refine anyL_done (by kernel_rfl) ?_
      obtain ⟨W14, hV14⟩ : ∃ V2, W13.setCell ⟨xb, 6, none⟩ (.slice q13 (k + 1) c13) = V2 := ⟨_, rfl⟩
      rw [hV14]
      have hX14 : Blk W14 xb #[.int .i64 ep, .int .i64 (i : Int), .int .i64 b0, .int .i64 b1, .int .i64 c0, .int .i64 c1, .slice q13 (k + 1) c13] 33 := hV14 ▸ hX13.set 6 (.slice q13 (k + 1) c13)
      have hC14 : Chg xb W13 W14 := hV14 ▸ chg_set _ _ _ _
      have hO14 : EO EE 79 W14 W10.heap.size (.slice q13 (k + 1) c13) (D.take (k + 1)) := own_at hO13 (fun g' hg' => hC14.other g' (fun e => absurd ((eo_kindA hO13 hg').uniq (e ▸ hX13.kindR)) (by decide)))
      have hF14 := hF13.trans (frm_chg (X := fun j => j = xb) hC14 rfl)
      clear hV14 hX13 hC14 hO13 hF13 d13 f13 hO hX hF
      go_wp2_with fail
      go_roundw
      case rel => exact ⟨k + 1, _, by omega, by go_num, hX14, hO14, hF14⟩
      case measure => simp [intOf]; omega
end Go.Proofs.YtclfdagenaaalaaGreat
namespace Go.Proofs.YtclfdagenaaalaaGreat.gateBatches
open Go.ChangeShapes Go.WideShapes Go.ChangeAt Go.RowKit Go.Joins
set_option linter.unusedVariables false
set_option maxRecDepth 100000

/-- A lane's base; the least numbers where there is no such lane. -/
def baX (S : Bsn) (n : Int) : Int × Int := if hasN n S.ba.length = true then (S.ba[n.toNat]?).getD (0, 0) else (0, 0)
theorem bbase_x {B : Nat} {K : Bkk} {S : Bsn} (n : Int) (w : World) (h : Bq w B K S) : Calls Tryz.prog 38 #[bptr K, .int .i64 n] w fun e w' => e = .returned (Plc (baX S n).1 (baX S n).2) ∧ Below w.heap.size w w' := by
  by_cases hh : hasN n S.ba.length = true
  · obtain ⟨h0, h1⟩ := has_iff.1 hh
    obtain ⟨i, rfl⟩ : ∃ i : Nat, n = (i : Int) := ⟨n.toNat, by omega⟩
    obtain ⟨p, hp⟩ : ∃ p, S.ba[i]? = some p := ⟨S.ba[i]'(by omega), List.getElem?_eq_getElem (by omega)⟩
    have e : baX S (i : Int) = p := by unfold baX; rw [if_pos hh, Int.toNat_natCast, hp]; rfl
    rw [e]
    exact bbase_at i p w h hp
  · have e : baX S n = (0, 0) := by unfold baX; rw [if_neg hh]
    rw [e]
    exact bbase_no n w h (by simpa using hh)
theorem gprobe_any {B : Nat} {K : Bkk} {S : Bsn} (ep ln : Int) (w : World) (h : Bq w B K S) :
    Calls Tryz.prog 20 #[bptr K, .int .i64 ep, .int .i64 ln] w fun e w' => e = .returned (.agg #[.int .i64 ep, .int .i64 ln, .int .i64 (baX S ln).1, .int .i64 (baX S ln).2, .int .i64 (baX S ln).1, .int .i64 (baX S ln).2, .slice none 0 0]) ∧ Below w.heap.size w w' := by
  have HB := fun V (hV : Below w.heap.size w V) => bbase_x ln V (h.keep hV)
  generalize baX S ln = p at *
  obtain ⟨b0, b1⟩ := p
  clear h
  obtain ⟨b, m, gf, cf, gb, cb, vr⟩ := K
  try dsimp only at *
  go_enter Tryz.func20, Tryz.ntmps20
  go_upto_region 1 with (refine al_blk rfl rfl (btA zBt (.slice none 0 0)) (zero_bt _) ?_; intro W1 e1 hX1 b1'; clear e1)
  go_upto_region 2 with (first
    | (go_at_call 38; refine (HB _ b1').mono ?_; rintro e W2 ⟨rfl, b2⟩)
    | (refine al_blk rfl rfl #[.int .i64 0, .int .i64 0] (zero_plG _) ?_; intro W3 e3 hC3 b3; clear e3)
    | (refine st_blk rfl rfl hC3 rfl rfl info_plc rfl (by simp [Value.oneCell']) ?_; intro W4 hC4 C4))
  have b14 := ab_trans b2 (ab_chg b3 C4 (Nat.le_refl _))
  have hX4 := hX1.keep b14
  have hw4 := ab_trans b1' b14
  clear HB hX1 b1' b2 b3 C4 hC3 b14
  go_wp2_with (first
    | (refine ld_blk rfl rfl hC4 rfl _ Tryz.underlying24 rfl info_plc ?_)
    | (refine valS rfl _ (bd_run rfl (built_bt4 ep ln b0 b1 b0 b1) (by simp only [List.map_toArray, List.map_cons, List.map_nil]; rfl) _) ?_)
    | (refine st_blk rfl rfl hX4 rfl (vs := #[.int .i64 ep, .int .i64 ln, .int .i64 b0, .int .i64 b1, .int .i64 b0, .int .i64 b1, .slice none 0 0]) rfl (info_bt ⟨ep, ln, (b0, b1), (b0, b1), []⟩ none 0 0) rfl (bt_one ⟨ep, ln, (b0, b1), (b0, b1), []⟩ none 0 0) ?_; intro W9 hX9 C9))
  exact bodyPost_ret (results_cell_row rfl _ _ _ 33 _ (0, 0) _ rfl hX9 Tryz.underlying33 rfl (info_bt ⟨ep, ln, (b0, b1), (b0, b1), []⟩ none 0 0)) rfl ⟨rfl, ab_chg hw4 C9 (Nat.le_refl _)⟩

/-- What both Next answer. -/
theorem nexts_any {B B' : Nat} {K : Bkk} {K' : Rk} {R : R6} {S : Bsn} (ep ln mo : Int) :
    ∃ (X Y : Btc) (ok : Bool), SmB X Y ∧ (∀ W, Bq W B K S → Calls Tryz.prog 18 #[bptr K, .int .i64 ep, .int .i64 ln, .int .i64 mo] W fun e w' => (∃ q n c, e = .returned (.tuple #[.agg (btA X (.slice q n c)), .bool ok]) ∧ EO EE 79 w' W.heap.size (.slice q n c) X.en) ∧ Below W.heap.size W w') ∧
      (∀ W, Rq W B' K' R → Sim S R → Okb S → R.tk.length ≤ 2000 → Calls Tryz.prog 19 #[r6ptr K', .int .i64 ep, .int .i64 ln, .int .i64 mo] W fun e w' => (∃ q n c, e = .returned (.tuple #[.agg (btA Y (.slice q n c)), .bool ok]) ∧ EO EE 79 w' W.heap.size (.slice q n c) Y.en) ∧ Below W.heap.size W w') := by
  by_cases hn : gnI S ep ln mo = true
  · have hln : ∃ i : Nat, ln = (i : Int) := by
      unfold gnI at hn
      simp only [Bool.and_eq_true] at hn
      exact ⟨ln.toNat, by have := has_iff.1 hn.1.1.2; omega⟩
    obtain ⟨i, rfl⟩ := hln
    have hmo : ∃ m : Nat, mo = (m : Int) := by
      unfold gnI at hn
      simp only [Bool.and_eq_true, decide_eq_true_eq] at hn
      exact ⟨mo.toNat, by have := hn.1.1.1; omega⟩
    obtain ⟨m, rfl⟩ := hmo
    by_cases hsim : Sim S R
    · refine ⟨gnB S ep i m, rnB S R ep i m, true, rn_sm hsim ep i m, fun W hW => ?_, fun W hW hs hok hT => ?_⟩
      · refine (gnext_yes ep i m W hW hn).mono ?_
        rintro e w' ⟨⟨v, rfl, hO⟩, hb⟩
        obtain ⟨q, c, ev⟩ := hO.form
        subst ev
        exact ⟨⟨q, _, c, rfl, hO⟩, hb⟩
      · refine (rnext17_yes ep i m W hW hs hok hT hn).mono ?_
        rintro e w' ⟨v, rfl, hO, hb⟩
        obtain ⟨q, c, ev⟩ := hO.form
        subst ev
        exact ⟨⟨q, _, c, rfl, hO⟩, hb⟩
    · refine ⟨gnB S ep i m, gnB S ep i m, true, ⟨rfl, rfl, rfl, rfl, rfl, rfl, .refl _ _⟩, fun W hW => ?_, fun W hW hs => absurd hs hsim⟩
      refine (gnext_yes ep i m W hW hn).mono ?_
      rintro e w' ⟨⟨v, rfl, hO⟩, hb⟩
      obtain ⟨q, c, ev⟩ := hO.form
      subst ev
      exact ⟨⟨q, _, c, rfl, hO⟩, hb⟩
  · have hn : gnI S ep ln mo = false := by simpa using hn
    refine ⟨zBt, zBt, false, ⟨rfl, rfl, rfl, rfl, rfl, rfl, .refl _ _⟩, fun W hW => ?_, fun W hW hs hok hT => ?_⟩
    · refine (gnext_no ep ln mo W hW hn).mono ?_
      rintro e w' ⟨⟨v, rfl, hO⟩, hb⟩
      obtain ⟨q, c, ev⟩ := hO.form
      subst ev
      exact ⟨⟨q, _, c, rfl, hO⟩, hb⟩
    · refine (rnext17_no ep ln mo W hW hs hok hn).mono ?_
      rintro e w' ⟨h1, hb⟩
      exact ⟨⟨none, 0, 0, h1, eo_nil _ _ _ _⟩, hb⟩
theorem infoFed {q : Option Addr} {n cap : Nat} {r m a b : Int} : (Tryz.prog.info? 26).map (·.size) = some (#[Value.slice q n cap, .int .i64 r, .int .i64 m, .int .i64 a, .int .i64 b] : Array Value).size := by kernel_rfl
theorem nx_out (v : Value) (ops : List Op5) (r mark : Int) (b0 b1 ep ln mo : Int) (w : World) (hv : ER E5 w v ops) (hn : r < 1 ∨ 150 < ops.length) :
    Calls Tryz.prog 5 #[.agg #[v, .int .i64 r, .int .i64 mark, .int .i64 b0, .int .i64 b1], .int .i64 ep, .int .i64 ln, .int .i64 mo] w fun e w' => e = .returned (.bool true) ∧ Below w.heap.size w w' := by
  have HBs := fun (V : World) (hV : Below w.heap.size w V) => basins_no v ops r mark (b0, b1) V (hv.keep hV) hn
  obtain ⟨q, cap, ev⟩ := hv.form
  subst ev
  clear hv
  try dsimp only at HBs
  generalize ops.length = n at *
  obtain ⟨A, hE, hX, hw⟩ := blk1 w #[.slice q n cap, .int .i64 r, .int .i64 mark, .int .i64 b0, .int .i64 b1] 26
  go_enter Tryz.func5, Tryz.ntmps5
  go_upto_region 1 with fail
  clear hE
  go_upto_region 3 with (go_at_call 6; refine (alive17_any _).mono ?_; rintro e W1 ⟨rfl, b1'⟩)
  have hX1 := hX.keep b1'
  have hw1 := ab_trans hw b1'
  clear hX hw b1'
  go_upto_region 5 with (first
    | (refine ld_blk rfl rfl hX1 rfl _ Tryz.underlying26 rfl infoFed ?_)
    | (go_at_call 17; refine (HBs _ hw1).mono ?_; rintro e W2 ⟨rfl, b2⟩))
  have hX2 := hX1.keep b2
  have x0 : W2.cell? ⟨w.heap.size, 0, none⟩ = some (.slice q n cap) := hX2.at rfl
  have x1 : W2.cell? ⟨w.heap.size, 1, none⟩ = some (.int .i64 r) := hX2.at rfl
  have hw2 := ab_trans hw1 b2
  clear hX1 hX2 hw1 b2 HBs
  by_cases c : r < 1
  · clear hn
    go_wp2_with fail
    go_ret
    exact ⟨rfl, hw2⟩
  · have c2 : (150 : Int) < (n : Int) := by omega
    clear hn
    go_wp2_with fail
    go_ret
    exact ⟨rfl, hw2⟩
set_option maxHeartbeats 8000000 in
theorem nx_in (v : Value) (ops : List Op5) (r mark : Int) (b0 b1 ep ln mo : Int) (w : World) (hv : ER E5 w v ops) (hf : ∀ o ∈ ops, Fit5 o) (hr : 1 ≤ r ∧ r ≤ 9223372036854775807) (hm : J64 mark) (hb : J64 b0 ∧ J64 b1) (hn : ops.length ≤ 150) :
    Calls Tryz.prog 5 #[.agg #[v, .int .i64 r, .int .i64 mark, .int .i64 b0, .int .i64 b1], .int .i64 ep, .int .i64 ln, .int .i64 mo] w fun e w' => e = .returned (.bool true) ∧ Below w.heap.size w w' := by
  have HBs := fun (V : World) (hV : Below w.heap.size w V) => basins_yes2 v ops r mark (b0, b1) V (hv.keep hV) hf hr hm hb hn
  have hb2 := bs17_ba (r := r) (mark := mark) (base := (b0, b1)) (ops := ops)
  obtain ⟨q, cap, ev⟩ := hv.form
  subst ev
  clear hv hf hr hm hb
  generalize bs17 r mark (b0, b1) ops = S at *
  try dsimp only at HBs
  generalize ops.length = n at *
  obtain ⟨A, hE, hX, hw⟩ := blk1 w #[.slice q n cap, .int .i64 r, .int .i64 mark, .int .i64 b0, .int .i64 b1] 26
  go_enter Tryz.func5, Tryz.ntmps5
  go_upto_region 1 with fail
  clear hE
  go_upto_region 3 with (go_at_call 6; refine (alive17_any _).mono ?_; rintro e W1 ⟨rfl, b1'⟩)
  have hX1 := hX.keep b1'
  have hw1 := ab_trans hw b1'
  clear hX hw b1'
  go_upto_region 6 with (first
    | (refine ld_blk rfl rfl hX1 rfl _ Tryz.underlying26 rfl infoFed ?_)
    | (go_at_call 17; refine (HBs _ hw1).mono ?_; rintro e W2 ⟨⟨K, K', R, rfl, hB, hR, hS, hT⟩, b2⟩))
  have hw2 := ab_trans hw1 b2
  have hok := hB.ok
  have hba := hb2 hok
  clear hX1 hw1 b2 HBs hb2
  obtain ⟨X, Y, ok, hXY, HN, HRN⟩ := nexts_any (B := W1.heap.size) (B' := W1.heap.size) (K := K) (K' := K') (R := R) (S := S) ep ln mo
  have HPr := fun V (hV : Below W2.heap.size W2 V) => gprobe_any ep ln V (hB.keep hV)
  have HR5 : Hid (∀ V, Below W2.heap.size W2 V → Rq V W1.heap.size K' R) := fun V hV => hR.keep hV
  have HRN2 := fun V (hV : Below W2.heap.size W2 V) => HRN V (hR.keep hV) hS hok hT
  have HN2 := fun V (hV : Below W2.heap.size W2 V) => HN V (hB.keep hV)
  have hbaR : R.ba = S.ba := hS.ba
  clear HN HRN hS hT hok hB
  obtain ⟨xe, xl, ⟨xf0, xf1⟩, ⟨xt0, xt1⟩, xn⟩ := X
  obtain ⟨ye, yl, ⟨yf0, yf1⟩, ⟨yt0, yt1⟩, yn⟩ := Y
  have HXY : Hid (SmB ⟨xe, xl, (xf0, xf1), (xt0, xt1), xn⟩ ⟨ye, yl, (yf0, yf1), (yt0, yt1), yn⟩) := hXY
  clear hXY hR
  unfold btA at HN2 HRN2
  try dsimp only at HN2 HRN2
  obtain ⟨kb, km, kgf, kcf, kgb, kcb, kvr⟩ := K
  obtain ⟨rb, gn, cn, gm, cm, gb, cb, vr, vt, us⟩ := K'
  try dsimp only at *
  go_upto_region 7 with (first
    | (go_at_call 18; refine (HN2 _ (Below.refl _ _)).mono ?_; rintro e W3 ⟨⟨q3, n3, c3, rfl, hO3⟩, b3⟩)
    | (refine al_blk rfl rfl (btA zBt (.slice none 0 0)) (zero_bt _) ?_; intro W4 e4 hX4 b4; clear e4)
    | (refine st_blk rfl rfl hX4 rfl (vs := #[.int .i64 xe, .int .i64 xl, .int .i64 xf0, .int .i64 xf1, .int .i64 xt0, .int .i64 xt1, .slice q3 n3 c3]) rfl (info_bt ⟨xe, xl, (xf0, xf1), (xt0, xt1), []⟩ q3 n3 c3) rfl (bt_one ⟨xe, xl, (xf0, xf1), (xt0, xt1), []⟩ q3 n3 c3) ?_; intro W5 hX5 C5))
  have b45 := ab_chg b4 C5 (Nat.le_refl _)
  have b25 := ab_trans b3 b45
  have hO5 := hO3.keep b45
  clear hX4 C5 b4 b3 b45 hO3 HN2
  go_upto_region 8 with (first
    | (go_at_call 19; refine (HRN2 _ b25).mono ?_; rintro e W6 ⟨⟨q6, n6, c6, rfl, hO6⟩, b6⟩)
    | (refine al_blk rfl rfl (btA zBt (.slice none 0 0)) (zero_bt _) ?_; intro W7 e7 hX7 b7; clear e7)
    | (refine st_blk rfl rfl hX7 rfl (vs := #[.int .i64 ye, .int .i64 yl, .int .i64 yf0, .int .i64 yf1, .int .i64 yt0, .int .i64 yt1, .slice q6 n6 c6]) rfl (info_bt ⟨ye, yl, (yf0, yf1), (yt0, yt1), []⟩ q6 n6 c6) rfl (bt_one ⟨ye, yl, (yf0, yf1), (yt0, yt1), []⟩ q6 n6 c6) ?_; intro W8 hX8 C8))
  have b78 := ab_chg b7 C8 (Nat.le_refl _)
  have b58 := ab_trans b6 b78
  have b28 := ab_trans b25 b58
  have hX58 := hX5.keep b58
  have hO58 := hO5.keep b58
  have hO8 := hO6.keep b78
  clear hX7 C8 b7 b6 b78 b25 b58 hO6 hO5 hX5 HRN2
  have HBX : Hid ((∀ i : Nat, ln = (i : Int) → i < 2 → R.ba[i]? = some (baX S ln)) ∧ (¬ (0 ≤ ln ∧ ln < 2) → baX S ln = (0, 0))) := by
    refine ⟨fun i e hi => ?_, fun h => ?_⟩
    · subst e
      obtain ⟨p, hp⟩ : ∃ p, S.ba[i]? = some p := ⟨S.ba[i]'(by omega), List.getElem?_eq_getElem (by omega)⟩
      unfold baX
      rw [if_pos (has_iff.2 ⟨by omega, by omega⟩), Int.toNat_natCast, hbaR, hp]
      rfl
    · unfold baX
      rw [if_neg (fun h2 => by have := has_iff.1 h2; rw [hba] at this; exact h this)]
  generalize baX S ln = BX at *
  obtain ⟨p0, p1⟩ := BX
  try dsimp only at HPr
  go_upto_region 9 with (first
    | (go_at_call 20; refine (HPr _ b28).mono ?_; rintro e W9 ⟨rfl, b9⟩)
    | (refine al_blk rfl rfl (btA zBt (.slice none 0 0)) (zero_bt _) ?_; intro W10 e10 hX10 b10; clear e10)
    | (refine st_blk rfl rfl hX10 rfl (vs := #[.int .i64 ep, .int .i64 ln, .int .i64 p0, .int .i64 p1, .int .i64 p0, .int .i64 p1, .slice none 0 0]) rfl (info_bt ⟨ep, ln, (p0, p1), (p0, p1), []⟩ none 0 0) rfl (bt_one ⟨ep, ln, (p0, p1), (p0, p1), []⟩ none 0 0) ?_; intro W11 hX11 C11))
  have b11 := ab_chg b10 C11 (Nat.le_refl _)
  have b8_11 := ab_trans b9 b11
  have b2_11 := ab_trans b28 b8_11
  have hX11a := hX58.keep b8_11
  have hY11 := hX8.keep b8_11
  have hO11 := hO58.keep b8_11
  have hQ11 := hO8.keep b8_11
  clear hX10 C11 b10 b9 b11 hX58 hX8 hO58 hO8 HPr b28 b8_11
  go_upto_region 10 with (first
    | (refine al_blk rfl rfl #[.int .i64 0, .int .i64 0] (zero_plG _) ?_; intro W12 e12 hX12 b12; clear e12)
    | (refine st_blk rfl rfl hX12 rfl rfl info_plc rfl (by simp [Value.oneCell']) ?_; intro W13 hB13 C13))
  have b13 := ab_chg b12 C13 (Nat.le_refl _)
  have b2_13 := ab_trans b2_11 b13
  have hXf := hX11a.keep b13
  have hYf := hY11.keep b13
  have hPf := hX11.keep b13
  have hOf := hO11.keep b13
  have hQf := hQ11.keep b13
  have hwf := ab_trans hw2 b2_13
  have hWl : w.heap.size ≤ W11.heap.size := (ab_trans hw2 b2_11).size
  have hneq : W3.heap.size < W11.heap.size ∧ W6.heap.size < W11.heap.size ∧ W9.heap.size < W11.heap.size := ⟨hX11a.lt, hY11.lt, hX11.lt⟩
  clear hX12 C13 b12 hX11a hY11 hX11 hO11 hQ11 b13 b2_11
  obtain ⟨bb, hbb⟩ : ∃ bb : Bool, bb = decide (0 ≤ ln ∧ ln < 2) := ⟨_, rfl⟩
  go_frame
  go_cut [63] from 58 to 62 (fun s63 wc => s63 = .bool bb ∧ wc = W13)
  case first =>
    clear HBX HR5 hbaR hba b2_13 hXf hYf hPf hB13 hOf hQf hwf hneq hWl HXY
    by_cases hl1 : 0 ≤ ln
    · by_cases hl2 : ln < 2
      · have hbt : bb = true := by rw [hbb]; simp [hl1, hl2]
        clear hbb
        go_wp2_with fail
        go_meet
        case rel => exact ⟨by rw [hbt], rfl⟩
      · have hbt : bb = false := by rw [hbb]; simp [hl2]
        clear hbb
        go_wp2_with fail
        go_meet
        case rel => exact ⟨by rw [hbt], rfl⟩
    · have hbt : bb = false := by rw [hbb]; simp [hl1]
      clear hbb
      go_wp2_with fail
      go_meet
      case rel => exact ⟨by rw [hbt], rfl⟩
  case rest =>
    obtain ⟨e63, ewc⟩ := hcut
    have ewc2 : W13 = wc := ewc.symm
    clear ewc
    subst ewc2
    subst e63
    go_upto_if 63 with fail
    try go_frame
    go_cut [] from 19 to 70 (fun wc => Blk wc W3.heap.size #[.int .i64 xe, .int .i64 xl, .int .i64 xf0, .int .i64 xf1, .int .i64 xt0, .int .i64 xt1, .slice q3 n3 c3] 33 ∧ Blk wc W6.heap.size #[.int .i64 ye, .int .i64 yl, .int .i64 yf0, .int .i64 yf1, .int .i64 yt0, .int .i64 yt1, .slice q6 n6 c6] 33 ∧ Blk wc W9.heap.size #[.int .i64 ep, .int .i64 ln, .int .i64 p0, .int .i64 p1, .int .i64 p0, .int .i64 p1, .slice none 0 0] 33 ∧ Blk wc W11.heap.size #[.int .i64 p0, .int .i64 p1] 24 ∧ EO EE 79 wc W2.heap.size (.slice q3 n3 c3) xn ∧ EO EE 79 wc W5.heap.size (.slice q6 n6 c6) yn ∧ Below w.heap.size w wc)
    case first =>
      cases bb
      · have hl : ¬ (0 ≤ ln ∧ ln < 2) := by simpa using hbb
        have hpz := HBX.out.2 hl
        injection hpz with e0 e1
        have HRl : Hid (Blk W13 W3.heap.size #[.int .i64 xe, .int .i64 xl, .int .i64 xf0, .int .i64 xf1, .int .i64 xt0, .int .i64 xt1, .slice q3 n3 c3] 33 ∧ Blk W13 W6.heap.size #[.int .i64 ye, .int .i64 yl, .int .i64 yf0, .int .i64 yf1, .int .i64 yt0, .int .i64 yt1, .slice q6 n6 c6] 33 ∧ Blk W13 W9.heap.size #[.int .i64 ep, .int .i64 ln, .int .i64 p0, .int .i64 p1, .int .i64 p0, .int .i64 p1, .slice none 0 0] 33 ∧ Blk W13 W11.heap.size #[.int .i64 p0, .int .i64 p1] 24 ∧ EO EE 79 W13 W2.heap.size (.slice q3 n3 c3) xn ∧ EO EE 79 W13 W5.heap.size (.slice q6 n6 c6) yn ∧ Below w.heap.size w W13) := ⟨hXf, hYf, hPf, by rw [e0, e1]; exact hB13, hOf, hQf, hwf⟩
        clear e0 e1 hXf hYf hPf hB13 hOf hQf hwf hneq hWl HBX HR5 hbaR hba b2_13 hl hbb
        go_wp2_with fail
        go_meet
        case rel => exact HRl.out
      · have hl : 0 ≤ ln ∧ ln < 2 := of_decide_eq_true hbb.symm
        obtain ⟨i, hlni⟩ : ∃ i : Nat, ln = (i : Int) := ⟨ln.toNat, by omega⟩
        have hbi := HBX.out.1 i hlni (by omega)
        have hRf := HR5.out W13 b2_13
        have r5 := hRf.cells.2.2.2.2.2.1
        have k0 := hRf.be.cell hbi (i := 0) (u := .int .i64 p0) rfl
        have k1 := hRf.be.cell hbi (i := 1) (u := .int .i64 p1) rfl
        rw [Nat.add_zero, show E2.k = 2 from rfl] at k0
        rw [show E2.k = 2 from rfl] at k1
        rw [hbaR, hba] at r5
        try dsimp only at r5 k0 k1
        obtain ⟨l0, l1⟩ := hl
        have hi2 : (i : Int) < 2 := by omega
        clear HBX HR5 hRf hbi hbaR hba b2_13 hbb
        subst hlni
        go_wp2_with (refine st_blk rfl rfl hB13 rfl (vs := #[.int .i64 p0, .int .i64 p1]) rfl info_plc rfl (by simp [Value.oneCell']) ?_; intro W14 hBf C14)
        go_meet
        case rel => exact ⟨hXf.chg C14 (by omega), hYf.chg C14 (by omega), hPf.chg C14 (by omega), hBf, own_at hOf (fun g' hg' => C14.other g' (fun e => absurd ((eo_kindA hOf hg').uniq (e ▸ hB13.kindR)) (by decide))), own_at hQf (fun g' hg' => C14.other g' (fun e => absurd ((eo_kindA hQf hg').uniq (e ▸ hB13.kindR)) (by decide))), ab_chg hwf C14 hWl⟩
    case rest =>
      obtain ⟨hXf, hYf, hPf, hBf, hOf, hQf, hwf⟩ := hcut
      clear HBX HR5 hbaR hba b2_13 hB13 hWl hneq
      have x0 : wc.cell? ⟨W3.heap.size, 0, none⟩ = some (.int .i64 xe) := hXf.at rfl
      have x1 : wc.cell? ⟨W3.heap.size, 1, none⟩ = some (.int .i64 xl) := hXf.at rfl
      have x2 : wc.cell? ⟨W3.heap.size, 2, none⟩ = some (.int .i64 xf0) := hXf.at rfl
      have x3 : wc.cell? ⟨W3.heap.size, 3, none⟩ = some (.int .i64 xf1) := hXf.at rfl
      have x4 : wc.cell? ⟨W3.heap.size, 4, none⟩ = some (.int .i64 xt0) := hXf.at rfl
      have x5 : wc.cell? ⟨W3.heap.size, 5, none⟩ = some (.int .i64 xt1) := hXf.at rfl
      have x6 : wc.cell? ⟨W3.heap.size, 6, none⟩ = some (.slice q3 n3 c3) := hXf.at rfl
      have y0 : wc.cell? ⟨W6.heap.size, 0, none⟩ = some (.int .i64 ye) := hYf.at rfl
      have y1 : wc.cell? ⟨W6.heap.size, 1, none⟩ = some (.int .i64 yl) := hYf.at rfl
      have y2 : wc.cell? ⟨W6.heap.size, 2, none⟩ = some (.int .i64 yf0) := hYf.at rfl
      have y3 : wc.cell? ⟨W6.heap.size, 3, none⟩ = some (.int .i64 yf1) := hYf.at rfl
      have y4 : wc.cell? ⟨W6.heap.size, 4, none⟩ = some (.int .i64 yt0) := hYf.at rfl
      have y5 : wc.cell? ⟨W6.heap.size, 5, none⟩ = some (.int .i64 yt1) := hYf.at rfl
      have y6 : wc.cell? ⟨W6.heap.size, 6, none⟩ = some (.slice q6 n6 c6) := hYf.at rfl
      have HPf : Hid (∀ V, Below wc.heap.size wc V → (V.cell? ⟨W9.heap.size, 0, none⟩ = some (.int .i64 ep) ∧ V.cell? ⟨W9.heap.size, 1, none⟩ = some (.int .i64 ln) ∧ V.cell? ⟨W9.heap.size, 2, none⟩ = some (.int .i64 p0) ∧ V.cell? ⟨W9.heap.size, 3, none⟩ = some (.int .i64 p1) ∧ V.cell? ⟨W9.heap.size, 4, none⟩ = some (.int .i64 p0) ∧ V.cell? ⟨W9.heap.size, 5, none⟩ = some (.int .i64 p1) ∧ V.cell? ⟨W9.heap.size, 6, none⟩ = some (.slice none 0 0)) ∧ V.cell? ⟨W11.heap.size, 0, none⟩ = some (.int .i64 p0) ∧ V.cell? ⟨W11.heap.size, 1, none⟩ = some (.int .i64 p1)) := fun V hV => ⟨⟨(hPf.keep hV).at rfl, (hPf.keep hV).at rfl, (hPf.keep hV).at rfl, (hPf.keep hV).at rfl, (hPf.keep hV).at rfl, (hPf.keep hV).at rfl, (hPf.keep hV).at rfl⟩, (hBf.keep hV).at rfl, (hBf.keep hV).at rfl⟩
      have HSm := rsame17_any ⟨xe, xl, (xf0, xf1), (xt0, xt1), xn⟩ ⟨ye, yl, (yf0, yf1), (yt0, yt1), yn⟩ (.slice q3 n3 c3) (.slice q6 n6 c6) wc hOf.er hQf.er
      unfold btA at HSm
      try dsimp only at HSm
      have hee : (ok == ok) = true := by cases ok <;> rfl
      have hp0 : (p0 == p0) = true := by simp
      have hp1 : (p1 == p1) = true := by simp
      have hln : (ln == ln) = true := by simp
      have hep : (ep == ep) = true := by simp
      clear hXf hYf hPf hBf hOf hQf
      go_wp2_with (go_at_call 13; refine HSm.mono ?_; rintro e Z1 ⟨⟨z, rfl, hz⟩, d1⟩; obtain rfl := hz.2 HXY.out; clear hz HSm; obtain ⟨⟨u0, u1, u2, u3, u4, u5, u6⟩, v0, v1⟩ := HPf.out Z1 d1)
      go_ret
      exact ⟨rfl, ab_trans hwf d1⟩
end Go.Proofs.YtclfdagenaaalaaGreat.gateBatches
