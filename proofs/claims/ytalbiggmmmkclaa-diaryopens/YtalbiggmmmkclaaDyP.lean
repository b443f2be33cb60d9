/-
  Plain mathematics of diaries: rows as frames, what a Split finds, what an Add, a Rewrite, an Open make of a tape.
-/
import Derived.Test.YtalbiggmmmkclaaTpV
namespace Go.Proofs.Ytalbiggmmmkclaa
set_option linter.unusedVariables false

theorem spN_app (xs ys : List (List Nat)) : spN (xs ++ ys) = spN xs + spN ys := by simp [spN]
theorem frms_app (xs ys : List (List Nat)) : frms (xs ++ ys) = frms xs ++ frms ys := by simp [frms]
theorem frms_cons (r : List Nat) (rs : List (List Nat)) : frms (r :: rs) = frm r ++ frms rs := by simp [frms]
/-- Rows, and something behind them that begins with no frame. -/
theorem spt_rows (rs : List (List Nat)) (h : ∀ r ∈ rs, r.length ≤ 16376) (t : List Nat) : spt (frms rs ++ t) = rs ++ spt t := by
  induction rs with
  | nil => rfl
  | cons r rs ih =>
    have hr := h r (List.mem_cons_self ..)
    rw [frms_cons, List.append_assoc]
    obtain ⟨o, b⟩ := ins_frm r (frms rs ++ t) hr
    rw [spt_go o, b, List.cons_append]
    congr 1
    rw [List.drop_append_of_le_length (by rw [frm_len]; omega), List.drop_of_length_le (by rw [frm_len]; omega), List.nil_append]
    exact ih (fun x hx => h x (List.mem_cons_of_mem _ hx))
theorem spt_nil : spt [] = [] := spt_stop (by decide)
theorem spt_frms (rs : List (List Nat)) (h : ∀ r ∈ rs, r.length ≤ 16376) : spt (frms rs) = rs := by
  have := spt_rows rs h []
  rwa [List.append_nil, spt_nil, List.append_nil] at this
/-- What is found is what the bytes begin with. -/
theorem spt_take : ∀ (n : Nat) (l : List Nat), l.length ≤ n → Byt l → l.take (spN (spt l)) = frms (spt l) ∧ spN (spt l) ≤ l.length
  | n, l, hn, hb => by
    cases ho : insOK l with
    | false => rw [spt_stop ho]; exact ⟨rfl, Nat.zero_le _⟩
    | true =>
      have hle := insB_le ho
      cases n with
      | zero => omega
      | succ n =>
        obtain ⟨h1, h2⟩ := spt_take n (l.drop (8 + (insB l).length)) (by rw [List.length_drop]; omega) (hb.drop _)
        have hi := (insOK_iff l).1 ho
        have hfr := (ins_of hb hi.1 hi.2.1 hi.2.2.1).2 ho
        rw [← insB_len ho] at hfr
        rw [List.length_drop] at h2
        rw [spt_go ho, frms_cons, show ∀ xs : List (List Nat), spN (insB l :: xs) = 8 + (insB l).length + spN xs by intro xs; simp [spN], List.take_add, h1, hfr]
        exact ⟨rfl, by omega⟩
theorem spt_le (l : List Nat) (hb : Byt l) : spN (spt l) ≤ l.length := (spt_take _ l (Nat.le_refl _) hb).2
theorem spt_eq (l : List Nat) (hb : Byt l) : l.take (spN (spt l)) = frms (spt l) := (spt_take _ l (Nat.le_refl _) hb).1
theorem spt_each : ∀ (n : Nat) (l : List Nat), l.length ≤ n → Byt l → ∀ r ∈ spt l, r.length ≤ 16376 ∧ Byt r
  | n, l, hn, hb => by
    cases ho : insOK l with
    | false => rw [spt_stop ho]; intro r hr; cases hr
    | true =>
      have hle := insB_le ho
      cases n with
      | zero => omega
      | succ n =>
        rw [spt_go ho]
        intro r hr
        rcases List.mem_cons.1 hr with rfl | hr
        · exact ⟨hle.2, (hb.drop _).take _⟩
        · exact spt_each n _ (by rw [List.length_drop]; omega) (hb.drop _) r hr
theorem spt_few (l : List Nat) (hb : Byt l) : 8 * (spt l).length ≤ l.length := Nat.le_trans (spN_len _) (spt_le l hb)

/-- An Add's error, and the tape behind it; an Open's. -/
def wrN (S : TS) (m : List Nat) : Nat := if apN S m.length = 0 then stN (apS S m) else apN S m.length
def wrS (S : TS) (m : List Nat) : TS := if apN S m.length = 0 then (if stN (apS S m) = 0 then syS (apS S m) else ctS (syS (apS S m))) else if apN S m.length = 7 then apS S m else ctS (apS S m)
theorem stN_of (S : TS) : stN S = 0 ∨ stN S = 5 ∨ stN S = 6 := by
  unfold stN
  split
  · exact .inr (.inl rfl)
  · split
    · exact .inr (.inl rfl)
    · split
      · exact .inr (.inr rfl)
      · exact .inl rfl
theorem apN_of (S : TS) (k : Nat) : apN S k = 0 ∨ apN S k = 5 ∨ apN S k = 6 ∨ apN S k = 7 := by
  unfold apN
  split
  · rcases stN_of S with h | h | h <;> simp [h]
  · simp
def opN (S : TS) : Nat := if S.down = true then 5 else if spN (spt S.l) < S.l.length then stN S else 0
def opS (S : TS) : TS := if S.down = true then S else if spN (spt S.l) < S.l.length then rpS S (S.l.take (spN (spt S.l))) else S
/-- A tape whose power is there, nothing due. -/
theorem op_up (rs : List (List Nat)) (h : ∀ r ∈ rs, r.length ≤ 16376) (s n : Nat) : opN (up (frms rs) s n) = 0 ∧ opS (up (frms rs) s n) = up (frms rs) s n := by
  have e := spt_frms rs h
  have e2 := frms_len rs
  constructor
  · unfold opN; simp only; rw [e, e2]; simp
  · unfold opS; simp only; rw [e, e2]; simp
theorem wr_up (l m : List Nat) (s n : Nat) (h : l.length + m.length ≤ 1048576) : wrN (up l s n) m = 0 ∧ wrS (up l s n) m = up (l ++ m) (l ++ m).length (n + 2) := by
  have h1 : apN (up l s n) m.length = 0 := by unfold apN; rw [if_pos h]; exact up_N _ _ _
  have h2 : apS (up l s n) m = up (l ++ m) s (n + 1) := by unfold apS; rw [if_pos h, if_pos (up_N _ _ _), up_S]
  constructor
  · unfold wrN; rw [if_pos h1, h2]; exact up_N _ _ _
  · unfold wrS; rw [if_pos h1, h2, if_pos (up_N _ _ _)]; unfold syS; rw [if_pos (up_N _ _ _), up_S]
end Go.Proofs.Ytalbiggmmmkclaa
