/-
  The document's Nums.
-/
import Derived.Test.YtgimkaklocmhkaaFrR
namespace Go.Proofs.Ytgimkaklocmhkaa
open Go.RowKit
set_option linter.unusedVariables false

def rV (l : List Nat) : Int := if nOK l = true then nV l else 0
def rS (l : List Nat) : Nat := if nOK l = true then nS l else 0
theorem rtake_any (v : Value) (l : List Nat) (w : World) (hv : Sl w v l) (hb : Byt l) (hl : l.length ≤ 100000) :
    Calls Try.prog 18 #[v] w fun e w' => e = .returned (.tuple #[.int .i64 (rV l), .int .i64 ((rS l : Nat) : Int)]) ∧ Below w.heap.size w w' := by
  by_cases h : 0 < l.length ∧ l.getD 0 0 ≤ 8 ∧ l.getD 0 0 < l.length
  · exact rtake_long v l w hv hb hl h.1 h.2.1 h.2.2
  · have hno : ¬ nOK l = true := fun hk => h ⟨((nOK_iff l).1 hk).1, ((nOK_iff l).1 hk).2.1, ((nOK_iff l).1 hk).2.2.1⟩
    have := rtake_short v l w hv hb hl h
    unfold rV rS
    rw [if_neg hno, if_neg hno]
    exact this
/-- What the document's Nums answers. -/
structure RP (W : World) (base : Nat) (r : Option (List Int)) (e : Ending) : Prop where
  some : ∀ x, r = some x → ∃ v', e = .returned (.tuple #[v', .bool true]) ∧ Io W base v' x
  none : r = none → e = .returned (.tuple #[.slice none 0 0, .bool false])
set_option maxHeartbeats 1000000 in
theorem fr_nums_any (v : Value) (l : List Nat) (most : Int) (w : World) (hv : Sl w v l) (hb : Byt l) (hl : l.length ≤ 100000) :
    Calls Try.prog 20 #[v, .int .i64 most] w fun e w' => RP w' w.heap.size (numsR l most) e ∧ Below w.heap.size w w' := by
  obtain ⟨q, cap, e, -⟩ := id hv
  subst e
  generalize hn : l.length = n at *
  go_enter Try.func20, Try.ntmps20
  go_wp2_with fail
  go_loopw [0, 6] (fun x y wr => ∃ rest done, Sl w x rest ∧ Byt rest ∧ Io wr w.heap.size y done ∧ nus l = (nus rest).map (done ++ ·) ∧ done.length + rest.length ≤ n ∧ Below w.heap.size w wr) (fun x _ _ => slLen x)
  case atStart => exact ⟨l, [], hv, hb, io_of (World.ownsRow_nil w _ _ _), by simp, by simp [hn], Below.refl _ _⟩
  case round =>
    obtain ⟨rest, done, S, B, O, HN, hlen, hbw⟩ := hrel
    obtain ⟨q2, cap2, e, -⟩ := id S
    subst e
    have Sr := S.keep hbw
    obtain ⟨q3, cap3, e⟩ := O.form
    subst e
    have HN' : Hid (nus l = (nus rest).map (done ++ ·)) := HN
    clear HN
    by_cases c : rest = []
    · subst c
      have HS : nus l = some done := by rw [HN'.out, nus_nil]; simp
      have HR : Hid (numsR l most = if 0 < done.length ∧ most < (done.length : Int) then none else some done) := by show _ = _; rw [numsR, HS, Option.bind_some]
      have hO := O
      generalize hd : done.length = k at *
      by_cases c1 : 0 < k ∧ most < (k : Int)
      · obtain ⟨c1, c2⟩ := c1
        have HR2 : Hid (numsR l most = none) := by show _ = _; rw [HR.out, if_pos ⟨c1, c2⟩]
        have c3 : (0 : Int) < (k : Int) := by omega
        go_wp2_with fail
        go_ret2
        exact ⟨⟨fun x hx => (by rw [HR2.out] at hx; cases hx), fun _ => rfl⟩, hbw⟩
      · have HR2 : Hid (numsR l most = some done) := by show _ = _; rw [HR.out, if_neg c1]
        by_cases c2 : 0 < k
        · have c3 : (0 : Int) < (k : Int) := by omega
          have c4 : ¬ most < (k : Int) := fun h => c1 ⟨c2, h⟩
          go_wp2_with fail
          go_ret2
          refine ⟨⟨fun x hx => ?_, fun hx => by rw [HR2.out] at hx; cases hx⟩, hbw⟩
          rw [HR2.out] at hx
          cases hx
          exact ⟨_, rfl, hO⟩
        · have e0 : k = 0 := by omega
          subst e0
          go_wp2_with fail
          go_ret2
          refine ⟨⟨fun x hx => ?_, fun hx => by rw [HR2.out] at hx; cases hx⟩, hbw⟩
          rw [HR2.out] at hx
          cases hx
          exact ⟨_, rfl, hO⟩
    · have hpos : 0 < rest.length := List.length_pos_iff.2 c
      have hmi0 : (0 : Int) < (rest.length : Int) := by omega
      cases hok : nOK rest with
      | false =>
        have HR : Hid (numsR l most = none) := numsR_none (by rw [HN'.out, nus_no c hok]; rfl)
        have HT : Hid (∀ W, Sl W (.slice q2 rest.length cap2) rest → Calls Try.prog 18 #[.slice q2 rest.length cap2] W fun e w' => e = .returned (.tuple #[.int .i64 0, .int .i64 0]) ∧ Below W.heap.size W w') := fun W h => by
          have := rtake_any _ _ W h B (by omega)
          have e1 : rV rest = 0 := by unfold rV; rw [if_neg (by simp [hok])]
          have e2 : rS rest = 0 := by unfold rS; rw [if_neg (by simp [hok])]
          rw [e1, e2] at this
          exact this
        generalize hr : rest.length = m at *
        generalize hd : done.length = k at *
        go_wp2_with (go_at_call 18; refine (HT.out _ Sr).mono ?_; rintro e W2 ⟨rfl, hb2⟩)
        go_ret2
        exact ⟨⟨fun x hx => (by rw [HR.out] at hx; cases hx), fun _ => rfl⟩, ab_trans hbw hb2⟩
      | true =>
        have HS : Hid (nus l = (nus (rest.drop (nS rest))).map ((done ++ [nV rest]) ++ ·)) := nus_step HN'.out hok
        have hnS := nS_le hok
        have hbd := B.drop (nS rest)
        have HT : Hid (∀ W, Sl W (.slice q2 rest.length cap2) rest → Calls Try.prog 18 #[.slice q2 rest.length cap2] W fun e w' => e = .returned (.tuple #[.int .i64 (nV rest), .int .i64 ((nS rest : Nat) : Int)]) ∧ Below W.heap.size W w') := fun W h => by
          have := rtake_any _ _ W h B (by omega)
          have e1 : rV rest = nV rest := by unfold rV; rw [if_pos hok]
          have e2 : rS rest = nS rest := by unfold rS; rw [if_pos hok]
          rw [e1, e2] at this
          exact this
        have HL : Hid ((rest.drop (nS rest)).length = rest.length - nS rest) := by show _ = _; rw [List.length_drop]
        have HD : Hid ((done ++ [nV rest]).length = done.length + 1) := by show _ = _; rw [List.length_append]; rfl
        generalize hr : rest.length = m at *
        generalize hd : done.length = k at *
        have O2 : wr.ownsRow w.heap.size 3 1 (.slice q3 k cap3) k (ints done) := by
          have := O
          unfold Io at this
          rwa [hd] at this
        generalize hV : nV rest = x at *
        generalize hSz : nS rest = sz at *
        have hsz0 : ((sz : Int) == 0) = false := by simp; omega
        clear hok
        go_wp2_with (first
          | (go_at_call 18; refine (HT.out _ Sr).mono ?_; rintro e W2 ⟨rfl, hb2⟩)
          | (refine bs_own rfl rfl [x] (by simp only [List.map_toArray, List.map_cons, List.map_nil]; rfl) (isl1 _ _) rfl (by decide) ?_; intro V3 hN3 hb3 z3)
          | (at_builtin; refine app_i _ rfl rfl rfl (own_keep (own_keep O2 hb2) hb3) rfl (own_is hN3) rfl (by show k + 1 ≤ _; omega) (ab_trans (ab_trans hbw hb2) hb3) ?_; intro v4 V4 hown4 hnil4 hb4 hgr4 hat4)
          | (refine slb_l' w rfl rfl sz rfl rfl rfl hnS.1 S ?_; intro q5 s5))
        refine ⟨⟨rest.drop sz, done ++ [x], s5, hbd, io_of hown4, HS.out, ?_, hb4⟩, ?_⟩
        · rw [HD.out, HL.out]; omega
        · simp only [slLen]; omega
end Go.Proofs.Ytgimkaklocmhkaa
