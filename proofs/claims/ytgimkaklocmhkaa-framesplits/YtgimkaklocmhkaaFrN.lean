/-
  The numbers that bytes consist of: frame.Nums.
-/
import Derived.Test.YtgimkaklocmhkaaFrI
namespace Go.Proofs.Ytgimkaklocmhkaa
open Go.RowKit
set_option linter.unusedVariables false

/-- The numbers that bytes consist of. -/
def nus (b : List Nat) : Option (List Int) := if b = [] then some [] else if h : nOK b = true then (nus (b.drop (nS b))).map (nV b :: ·) else none
termination_by b.length
decreasing_by
  have := nS_le h
  rw [List.length_drop]
  omega
theorem nus_nil : nus [] = some [] := by rw [nus, if_pos rfl]
theorem nOK_ne {b : List Nat} (h : nOK b = true) : b ≠ [] := by
  intro e
  subst e
  simp [nOK] at h
theorem nus_go {b : List Nat} (h : nOK b = true) : nus b = (nus (b.drop (nS b))).map (nV b :: ·) := by rw [nus, if_neg (nOK_ne h), dif_pos h]
theorem nus_no {b : List Nat} (h0 : b ≠ []) (h : nOK b = false) : nus b = none := by rw [nus, if_neg h0, dif_neg (by simp [h])]
theorem nus_put (ns : List Int) (h : In64 ns) : nus (numsB ns) = some ns := by
  induction ns with
  | nil => exact nus_nil
  | cons n r ih =>
    have h1 := h n (List.mem_cons_self ..)
    obtain ⟨a, b, c⟩ := num_put n (numsB r) h1.1 h1.2
    have e : numsB (n :: r) = numB n ++ numsB r := by simp [numsB]
    rw [e, nus_go a, b, c, List.drop_append_of_le_length (Nat.le_refl _), List.drop_length, List.nil_append, ih (fun x hx => h x (List.mem_cons_of_mem _ hx))]
    rfl
/-- At most so many. -/
def numsR (b : List Nat) (most : Int) : Option (List Int) := (nus b).bind fun r => if 0 < r.length ∧ most < (r.length : Int) then none else some r
theorem numsR_some {b : List Nat} {most : Int} {done : List Int} (h : nus b = some done) (hm : done = [] ∨ (done.length : Int) ≤ most) : numsR b most = some done := by
  rw [numsR, h, Option.bind_some, if_neg]
  rintro ⟨h1, h2⟩
  rcases hm with rfl | hm
  · simp at h1
  · omega
theorem numsR_none {b : List Nat} {most : Int} (h : nus b = none) : numsR b most = none := by rw [numsR, h, Option.bind_none]
theorem numsR_full {b rest : List Nat} {most : Int} {done : List Int} (h : nus b = (nus rest).map (done ++ ·)) (hok : nOK rest = true) (hm : most ≤ (done.length : Int)) : numsR b most = none := by
  rw [numsR, h, nus_go hok]
  cases nus (rest.drop (nS rest)) with
  | none => rfl
  | some r =>
    simp only [Option.map_some, Option.bind_some]
    rw [if_pos]
    simp
    omega
theorem nus_step {b rest : List Nat} {done : List Int} (h : nus b = (nus rest).map (done ++ ·)) (hok : nOK rest = true) : nus b = (nus (rest.drop (nS rest))).map ((done ++ [nV rest]) ++ ·) := by
  rw [h, nus_go hok]
  cases nus (rest.drop (nS rest)) with
  | none => rfl
  | some r => simp
/-- What Nums answers. -/
structure NP (W : World) (base : Nat) (r : Option (List Int)) (e : Ending) : Prop where
  some : ∀ x, r = some x → ∃ v', e = .returned (.tuple #[v', .nilIface]) ∧ Io W base v' x
  none : r = none → e = .returned (.tuple #[.slice none 0 0, Err 3])
/-- How long a slice is. -/
def slLen : Value → Nat
  | .slice _ n _ => n
  | _ => 0
theorem Sl.slLen {W : World} {v : Value} {l : List Nat} (h : Sl W v l) : slLen v = l.length := by
  obtain ⟨q, cap, rfl, _⟩ := h
  rfl
theorem Io.form {W : World} {base : Nat} {v : Value} {l : List Int} (h : Io W base v l) : ∃ q cap, v = .slice q l.length cap := by
  obtain ⟨q, cap, g, off, e, _⟩ := h.is
  exact ⟨q, cap, e⟩

section
variable {ops : Array Oper} {rest : List Oper} {o : Oper} {a : Act} {w : World} {Q : Exit → Act → World → Prop}
/-- 'b[i:]' of bytes that an earlier world holds. -/
theorem slb_l' (V : World) (hw : Region.wanted o (yielded ops a.tmps) = true) {x y : Operand} (ho : o.op = .slice 22 x (some y) none none) {q : Option Addr} {n cap : Nat} {I : Int} {ki : IntKind} {l : List Nat} (i : Nat)
    (hx : a.eval x = .slice q n cap) (hy : a.eval y = .int ki I) (hI : I = (i : Int)) (h1 : i ≤ n) (hsl : Sl V (.slice q n cap) l)
    (hK : ∀ q', Sl V (.slice q' (n - i) (cap - i)) (l.drop i) → wpList Try.prog ops Q rest (a.put o.dst (.slice q' (n - i) (cap - i))) w) : wpList Try.prog ops Q (o :: rest) a w := by
  have hc := hsl.len
  obtain ⟨q', e⟩ := sliced_form q i n cap
  have hr := slb_l_run (w := w) ho hx hy hI h1 hc.2.1
  rw [e] at hr
  refine valS hw _ hr (hK q' ?_)
  have := hsl.sub h1 (Nat.le_refl _) (Nat.le_refl _) hc.2.1 e.symm
  rwa [List.take_of_length_le (by rw [List.length_drop]; omega)] at this
end
set_option maxHeartbeats 1000000 in
theorem fnums_any (v : Value) (l : List Nat) (most : Int) (w : World) (hv : Sl w v l) (hb : Byt l) (hl : l.length ≤ 100000) :
    Calls Try.prog 19 #[v, .int .i64 most] w fun e w' => NP w' w.heap.size (numsR l most) e ∧ Below w.heap.size w w' := by
  obtain ⟨q, cap, e, -⟩ := id hv
  subst e
  generalize hn : l.length = n at *
  go_enter Try.func19, Try.ntmps19
  go_wp2_with fail
  go_loopw [0, 6] (fun x y wr => ∃ rest done, Sl w x rest ∧ Byt rest ∧ Io wr w.heap.size y done ∧ nus l = (nus rest).map (done ++ ·) ∧ (done = [] ∨ (done.length : Int) ≤ most) ∧ done.length + rest.length ≤ n ∧ Below w.heap.size w wr) (fun x _ _ => slLen x)
  case atStart => exact ⟨l, [], hv, hb, io_of (World.ownsRow_nil w _ _ _), by simp, .inl rfl, by simp [hn], Below.refl _ _⟩
  case round =>
    obtain ⟨rest, done, S, B, O, HN, HM, hlen, hbw⟩ := hrel
    obtain ⟨q2, cap2, e, -⟩ := id S
    subst e
    have Sr := S.keep hbw
    obtain ⟨q3, cap3, e⟩ := O.form
    subst e
    have HN' : Hid (nus l = (nus rest).map (done ++ ·)) := HN
    have HM' : Hid (done = [] ∨ (done.length : Int) ≤ most) := HM
    clear HN HM
    by_cases c : rest = []
    · subst c
      have HR : Hid (numsR l most = some done) := numsR_some (by rw [HN'.out, nus_nil]; simp) HM'.out
      go_wp2_with fail
      go_ret2
      refine ⟨⟨fun x hx => ?_, fun hx => by rw [HR.out] at hx; cases hx⟩, hbw⟩
      rw [HR.out] at hx
      cases hx
      exact ⟨_, rfl, O⟩
    · have hpos : 0 < rest.length := List.length_pos_iff.2 c
      generalize hr : rest.length = m at *
      generalize hd : done.length = k at *
      have hmi : (0 : Int) < (m : Int) := by omega
      cases hok : nOK rest with
      | false =>
        have HR : Hid (numsR l most = none) := numsR_none (by rw [HN'.out, nus_no c hok]; rfl)
        go_wp2_with (go_at_call 35; refine (number_no _ _ _ Sr B hok).mono ?_; rintro e W2 ⟨rfl, rfl⟩)
        go_ret2
        exact ⟨⟨fun x hx => (by rw [HR.out] at hx; cases hx), fun _ => rfl⟩, hbw⟩
      | true =>
        by_cases hmost : most ≤ (k : Int)
        · have HR : Hid (numsR l most = none) := numsR_full HN'.out hok (by rw [hd]; exact hmost)
          go_wp2_with (go_at_call 35; refine (number_ok _ _ _ Sr B hok).mono ?_; rintro e W2 ⟨rfl, rfl⟩)
          go_ret2
          exact ⟨⟨fun x hx => (by rw [HR.out] at hx; cases hx), fun _ => rfl⟩, hbw⟩
        · have HS : Hid (nus l = (nus (rest.drop (nS rest))).map ((done ++ [nV rest]) ++ ·)) := nus_step HN'.out hok
          have hnS := nS_le hok
          have hbd := B.drop (nS rest)
          have HL : Hid ((rest.drop (nS rest)).length = m - nS rest) := by show _ = _; rw [List.length_drop, hr]
          have HD : Hid ((done ++ [nV rest]).length = k + 1) := by show _ = _; rw [List.length_append, hd]; rfl
          have HK : Hid (done.length + 1 ≤ 1000000) := by show _ ≤ _; omega
          have HNO : Hid (∀ W, Sl W (.slice q2 m cap2) rest → Calls Try.prog 35 #[.slice q2 m cap2] W fun e w' => e = .returned (.tuple #[.int .i64 (nV rest), .int .i64 ((nS rest : Nat) : Int), .bool true]) ∧ w' = W) := fun W h => number_ok _ _ W h B hok
          rw [hr] at hnS
          generalize hV : nV rest = x at *
          generalize hSz : nS rest = sz at *
          clear hok
          go_upto_region 6 with (go_at_call 35; refine (HNO.out _ Sr).mono ?_; rintro e W2 ⟨rfl, rfl⟩)
          have O2 : W2.ownsRow w.heap.size 3 1 (.slice q3 k cap3) k (ints done) := by
            have := O
            unfold Io at this
            rwa [hd] at this
          go_wp2_with (first
            | (refine bs_own rfl rfl [x] (by simp only [List.map_toArray, List.map_cons, List.map_nil]; rfl) (isl1 _ _) rfl (by decide) ?_; intro V3 hN3 hb3 z3)
            | (at_builtin; refine app_i _ rfl rfl rfl (own_keep O2 hb3) rfl (own_is hN3) rfl (by show k + 1 ≤ _; omega) (ab_trans hbw hb3) ?_; intro v4 V4 hown4 hnil4 hb4 hgr4 hat4)
            | (refine slb_l' w rfl rfl sz rfl rfl rfl hnS.1 S ?_; intro q5 s5))
          refine ⟨⟨rest.drop sz, done ++ [x], s5, hbd, io_of hown4, HS.out, .inr ?_, ?_, hb4⟩, ?_⟩
          · rw [HD.out]; omega
          · rw [HD.out, HL.out]; omega
          · simp only [slLen]; omega
end Go.Proofs.Ytgimkaklocmhkaa
