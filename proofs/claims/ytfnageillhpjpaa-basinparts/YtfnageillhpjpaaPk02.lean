/-
  Numbers as bytes, sums and frames: lists of bytes as plain numbers; no program in sight.
-/
import Derived.WalkKit
import Derived.Lib.BitFns
namespace Go.Proofs.Ytfnageillhpjpaa
set_option maxRecDepth 100000
set_option linter.unusedVariables false

/-- All are bytes. -/
def Byt (l : List Nat) : Prop := ∀ x ∈ l, x < 256
theorem Byt.nil : Byt [] := by intro x hx; cases hx
theorem Byt.append {l m : List Nat} (h : Byt l) (k : Byt m) : Byt (l ++ m) := by
  intro x hx
  rcases List.mem_append.1 hx with h1 | h1
  · exact h x h1
  · exact k x h1
theorem Byt.take {l : List Nat} (h : Byt l) (k : Nat) : Byt (l.take k) := fun x hx => h x (List.mem_of_mem_take hx)
theorem Byt.drop {l : List Nat} (h : Byt l) (k : Nat) : Byt (l.drop k) := fun x hx => h x (List.mem_of_mem_drop hx)
theorem Byt.at {l : List Nat} (h : Byt l) {j x : Nat} (hj : l[j]? = some x) : x < 256 := h x (List.mem_of_getElem? hj)
theorem Byt.getD {l : List Nat} (h : Byt l) (j : Nat) : l.getD j 0 < 256 := by
  rw [List.getD_eq_getElem?_getD]
  cases hj : l[j]? with
  | none => simp
  | some x => simpa using h.at hj
theorem Byt.one {x : Nat} (h : x < 256) : Byt [x] := by intro y hy; simp at hy; omega
theorem Byt.set {l : List Nat} (h : Byt l) (i x : Nat) (hx : x < 256) : Byt (l.set i x) := by
  intro y hy
  rcases List.mem_or_eq_of_mem_set hy with h1 | h1
  · exact h y h1
  · omega

/-- A number's lowest bytes. -/
def spl (u : Nat) : Nat → List Nat
  | 0 => []
  | k + 1 => spl u k ++ [u / 256 ^ k % 256]
theorem spl_len (u k : Nat) : (spl u k).length = k := by
  induction k with
  | zero => rfl
  | succ k ih => simp [spl, ih]
theorem spl_byt (u k : Nat) : Byt (spl u k) := by
  induction k with
  | zero => exact .nil
  | succ k ih => exact ih.append (.one (Nat.mod_lt _ (by decide)))
theorem spl_cons (u k : Nat) : spl u (k + 1) = u % 256 :: spl (u / 256) k := by
  induction k generalizing u with
  | zero => simp [spl]
  | succ k ih =>
    rw [spl, ih, spl, List.cons_append, Nat.div_div_eq_div_mul, Nat.pow_succ, Nat.mul_comm 256]
/-- The number that bytes spell. -/
def val : List Nat → Nat
  | [] => 0
  | b :: r => b + 256 * val r
theorem val_lt (l : List Nat) (h : Byt l) : val l < 256 ^ l.length := by
  induction l with
  | nil => simp [val]
  | cons b r ih =>
    have h1 := ih (fun x hx => h x (List.mem_cons_of_mem _ hx))
    have h2 := h b (List.mem_cons_self ..)
    simp only [val, List.length_cons, Nat.pow_succ]
    omega
theorem val_snoc (l : List Nat) (b : Nat) : val (l ++ [b]) = val l + b * 256 ^ l.length := by
  induction l with
  | nil => simp [val]
  | cons c r ih =>
    simp only [List.cons_append, val, ih, List.length_cons, Nat.pow_succ]
    rw [Nat.mul_add, Nat.mul_comm (256 ^ r.length) 256, ← Nat.mul_assoc 256, Nat.mul_comm 256 b, Nat.mul_assoc b]
    omega
theorem val_spl (u k : Nat) : val (spl u k) = u % 256 ^ k := by
  induction k generalizing u with
  | zero => simp [spl, val, Nat.mod_one]
  | succ k ih =>
    rw [spl_cons, val, ih, Nat.pow_succ, Nat.mul_comm (256 ^ k) 256, Nat.mod_mul]
theorem spl_val (l : List Nat) (h : Byt l) : spl (val l) l.length = l := by
  induction l with
  | nil => rfl
  | cons b r ih =>
    have h2 := h b (List.mem_cons_self ..)
    rw [List.length_cons, spl_cons, val]
    have e1 : (b + 256 * val r) % 256 = b := by omega
    have e2 : (b + 256 * val r) / 256 = val r := by omega
    rw [e1, e2, ih (fun x hx => h x (List.mem_cons_of_mem _ hx))]

/-- A number's bytes up to the highest one that isn't 0. -/
def leB : Nat → Nat → List Nat
  | 0, _ => []
  | k + 1, u => if u = 0 then [] else u % 256 :: leB k (u / 256)
theorem leB_le (k u : Nat) : (leB k u).length ≤ k := by
  induction k generalizing u with
  | zero => simp [leB]
  | succ k ih =>
    unfold leB
    split
    · simp
    · simpa using ih _
theorem leB_byt (k u : Nat) : Byt (leB k u) := by
  induction k generalizing u with
  | zero => exact .nil
  | succ k ih =>
    unfold leB
    split
    · exact .nil
    · exact (Byt.one (Nat.mod_lt _ (by decide))).append (ih _)
theorem leB_spl (k u : Nat) : leB k u = spl u (leB k u).length := by
  induction k generalizing u with
  | zero => rfl
  | succ k ih =>
    unfold leB
    split
    · rfl
    · rw [List.length_cons, spl_cons, ← ih]
theorem val_leB (k u : Nat) (h : u < 256 ^ k) : val (leB k u) = u := by
  induction k generalizing u with
  | zero => simp [leB, val] at h ⊢; omega
  | succ k ih =>
    unfold leB
    split
    · simp [val]; omega
    · rw [val, ih _ (by rw [Nat.pow_succ] at h; omega)]; omega
theorem val_pos {l : List Nat} (hl : l.getLast? ≠ some 0) (hn : l ≠ []) : val l ≠ 0 := by
  induction l with
  | nil => exact absurd rfl hn
  | cons b r ih =>
    cases r with
    | nil => simp [val] at hl ⊢; omega
    | cons c r =>
      have := ih (by simpa using hl) (by simp)
      simp only [val] at this ⊢
      omega
theorem leB_val (k : Nat) (l : List Nat) (h : Byt l) (hk : l.length ≤ k) (hl : l.getLast? ≠ some 0) : leB k (val l) = l := by
  induction k generalizing l with
  | zero => cases l with
    | nil => rfl
    | cons b r => simp at hk
  | succ k ih =>
    cases l with
    | nil => simp [leB, val]
    | cons b r =>
      have h2 := h b (List.mem_cons_self ..)
      have h0 := val_pos hl (by simp)
      unfold leB
      rw [if_neg h0, val]
      have e1 : (b + 256 * val r) % 256 = b := by omega
      have e2 : (b + 256 * val r) / 256 = val r := by omega
      rw [e1, e2, ih r (fun x hx => h x (List.mem_cons_of_mem _ hx)) (by simpa using hk)]
      cases r with
      | nil => simp
      | cons c r => simpa using hl
theorem leB_last (k u : Nat) (h : u < 256 ^ k) : (leB k u).getLast? ≠ some 0 := by
  induction k generalizing u with
  | zero => simp [leB]
  | succ k ih =>
    unfold leB
    split
    · simp
    · rename_i h0
      have h1 := ih (u / 256) (by rw [Nat.pow_succ] at h; omega)
      have hv := val_leB k (u / 256) (by rw [Nat.pow_succ] at h; omega)
      cases hc : leB k (u / 256) with
      | nil => rw [hc] at hv; simp [val] at hv ⊢; omega
      | cons c r => rw [hc] at h1; simpa using h1
theorem aux_len (f u : Nat) (hu : u < 2 ^ (8 * f)) : (Lib.bitLenAux (8 * f) u + 7) / 8 = (leB f u).length := by
  induction f generalizing u with
  | zero => simp [leB, Lib.bitLenAux]
  | succ f ih =>
    unfold leB
    split
    · rename_i h0; subst h0; rw [Nat.mul_succ]; simp [Lib.bitLenAux]
    · rename_i h0
      have key : ∀ (n : Nat) (x : Nat), x < 2 ^ n → ∀ g, (x = 0 → Lib.bitLenAux (n + g) x = 0) ∧ Lib.bitLenAux (n + g) x ≤ n := by
        intro n
        induction n with
        | zero => intro x hx g; have : x = 0 := by simpa using hx
                  subst this
                  cases g <;> simp [Lib.bitLenAux]
        | succ n ihn =>
          intro x hx g
          refine ⟨fun e => by subst e; rw [Nat.add_right_comm]; simp [Lib.bitLenAux], ?_⟩
          rw [Nat.add_right_comm]
          unfold Lib.bitLenAux
          split
          · omega
          · have := (ihn (x / 2) (by rw [Nat.pow_succ] at hx; omega) g).2
            omega
      have e8 : 8 * (f + 1) = 8 * f + 8 := by omega
      rw [List.length_cons, ← ih (u / 256) (by rw [e8, Nat.pow_add] at hu; omega)]
      by_cases h1 : u < 256
      · have e : u / 256 = 0 := by omega
        rw [e]
        have k1 := (key 8 u h1 (8 * f)).2
        have k0 : 1 ≤ Lib.bitLenAux (8 + 8 * f) u := by
          rw [Nat.add_comm 8]
          show 1 ≤ Lib.bitLenAux ((8 * f + 7) + 1) u
          unfold Lib.bitLenAux
          rw [if_neg h0]; omega
        have k2 : Lib.bitLenAux (8 * f) 0 = 0 := by cases f <;> simp [Lib.bitLenAux, Nat.mul_succ]
        rw [e8, Nat.add_comm (8 * f), k2]
        omega
      · have step : ∀ g x, x ≠ 0 → Lib.bitLenAux (g + 1) x = 1 + Lib.bitLenAux g (x / 2) := fun g x hx => by
          rw [Lib.bitLenAux, if_neg hx]
        rw [e8]
        rw [show 8 * f + 8 = (8 * f + 7) + 1 from rfl, step _ _ h0, step (8 * f + 6) _ (by omega), step (8 * f + 5) _ (by omega), step (8 * f + 4) _ (by omega), step (8 * f + 3) _ (by omega), step (8 * f + 2) _ (by omega), step (8 * f + 1) _ (by omega), step (8 * f) _ (by omega)]
        have e : u / 2 / 2 / 2 / 2 / 2 / 2 / 2 / 2 = u / 256 := by omega
        rw [e]
        omega
theorem bitLen_len (u : Nat) (hu : u < 18446744073709551616) : (Lib.bitLen u + 7) / 8 = (leB 8 u).length := aux_len 8 u (by simpa using hu)

/-- A number turned. -/
def zig (n : Int) : Nat := if n < 0 then (-(n + 1)).toNat * 2 + 1 else n.toNat * 2
def unz (u : Nat) : Int := if u % 2 = 1 then -((u / 2 : Nat) : Int) - 1 else ((u / 2 : Nat) : Int)
theorem unz_zig (n : Int) : unz (zig n) = n := by
  unfold unz zig
  split <;> split <;> omega
theorem zig_unz (u : Nat) : zig (unz u) = u := by
  unfold unz zig
  split <;> split <;> omega
theorem zig_lt (n : Int) (h0 : -9223372036854775808 ≤ n) (h1 : n ≤ 9223372036854775807) : zig n < 18446744073709551616 := by
  unfold zig; split <;> omega
theorem unz_in (u : Nat) (h : u < 18446744073709551616) : -9223372036854775808 ≤ unz u ∧ unz u ≤ 9223372036854775807 := by
  unfold unz; split <;> omega
/-- A number's bytes, with their count ahead. -/
def numB (n : Int) : List Nat := (leB 8 (zig n)).length :: leB 8 (zig n)
def numsB (l : List Int) : List Nat := l.flatMap numB
theorem numB_byt (n : Int) : Byt (numB n) := by
  have := leB_le 8 (zig n)
  exact (Byt.one (by omega : (leB 8 (zig n)).length < 256)).append (leB_byt 8 _)
theorem numsB_byt (l : List Int) : Byt (numsB l) := by
  intro x hx
  obtain ⟨n, _, h⟩ := List.mem_flatMap.1 hx
  exact numB_byt n x h
theorem numB_len (n : Int) : (numB n).length ≤ 9 ∧ 1 ≤ (numB n).length := by
  have := leB_le 8 (zig n)
  simp [numB]; omega
theorem numsB_len (l : List Int) : (numsB l).length ≤ 9 * l.length := by
  induction l with
  | nil => simp [numsB]
  | cons n r ih =>
    have := numB_len n
    simp [numsB] at ih ⊢
    omega
theorem numsB_snoc (l : List Int) (n : Int) : numsB (l ++ [n]) = numsB l ++ numB n := by simp [numsB]

/-- Do bytes begin with a number? -/
def nOK (b : List Nat) : Bool := decide (0 < b.length ∧ b.getD 0 0 ≤ 8 ∧ b.getD 0 0 < b.length ∧ (b.getD 0 0 = 0 ∨ b.getD (b.getD 0 0) 0 ≠ 0))
def nS (b : List Nat) : Nat := 1 + b.getD 0 0
def nL (b : List Nat) : List Nat := (b.drop 1).take (b.getD 0 0)
def nV (b : List Nat) : Int := unz (val (nL b))
theorem nOK_iff (b : List Nat) : nOK b = true ↔ 0 < b.length ∧ b.getD 0 0 ≤ 8 ∧ b.getD 0 0 < b.length ∧ (b.getD 0 0 = 0 ∨ b.getD (b.getD 0 0) 0 ≠ 0) := by simp [nOK]
theorem nL_len {b : List Nat} (h : b.getD 0 0 < b.length) : (nL b).length = b.getD 0 0 := by
  unfold nL
  rw [List.length_take, List.length_drop]
  omega
theorem cons_nL {b : List Nat} (h : 0 < b.length) : b.getD 0 0 :: nL b = b.take (nS b) := by
  cases b with
  | nil => simp at h
  | cons c r => simp [nL, nS, Nat.add_comm 1]
theorem nL_last {b : List Nat} (h : b.getD 0 0 < b.length) : b.getD 0 0 = 0 ∨ (nL b).getLast? = some (b.getD (b.getD 0 0) 0) := by
  by_cases h0 : b.getD 0 0 = 0
  · exact .inl h0
  · right
    rw [List.getLast?_eq_getElem?, nL_len h]
    unfold nL
    rw [List.getElem?_take_of_lt (by omega), List.getElem?_drop]
    have e : 1 + (b.getD 0 0 - 1) = b.getD 0 0 := by omega
    rw [e, List.getD_eq_getElem?_getD (i := b.getD 0 0), List.getElem?_eq_getElem h]
    rfl
theorem nVal_lt {b : List Nat} (hb : Byt b) (h8 : b.getD 0 0 ≤ 8) : val (nL b) < 18446744073709551616 := by
  have h := val_lt (nL b) ((hb.drop 1).take _)
  have hl : (nL b).length ≤ 8 := by unfold nL; rw [List.length_take]; omega
  have := Nat.pow_le_pow_right (n := 256) (by decide) hl
  omega
theorem num_back {b : List Nat} (hb : Byt b) (h : nOK b = true) : numB (nV b) = b.take (nS b) := by
  obtain ⟨h0, h8, hl, hz⟩ := (nOK_iff b).1 h
  rw [← cons_nL h0]
  have e : leB 8 (zig (nV b)) = nL b := by
    rw [nV, zig_unz]
    refine leB_val 8 _ ((hb.drop 1).take _) (by rw [nL_len hl]; exact h8) ?_
    rcases nL_last hl with h1 | h1
    · have : nL b = [] := List.eq_nil_of_length_eq_zero (by rw [nL_len hl]; exact h1)
      rw [this]; simp
    · rw [h1]
      rcases hz with hz | hz
      · have : nL b = [] := List.eq_nil_of_length_eq_zero (by rw [nL_len hl]; exact hz)
        rw [this] at h1; simp at h1
      · simpa using hz
  rw [numB, e, nL_len hl]
theorem num_of {b : List Nat} (hb : Byt b) (h0 : 0 < b.length) (h8 : b.getD 0 0 ≤ 8) (hl : b.getD 0 0 < b.length) : (numB (nV b) = b.take (nS b)) ↔ nOK b = true := by
  refine ⟨fun h => ?_, num_back hb⟩
  refine (nOK_iff b).2 ⟨h0, h8, hl, ?_⟩
  rw [← cons_nL h0, numB] at h
  injection h with h1 h2
  rcases nL_last hl with h3 | h3
  · exact .inl h3
  · right
    intro e
    rw [e, ← h2] at h3
    rw [nV, zig_unz] at h3
    exact leB_last 8 _ (by have := nVal_lt hb h8; simpa using this) h3
theorem num_put (n : Int) (r : List Nat) (h0 : -9223372036854775808 ≤ n) (h1 : n ≤ 9223372036854775807) :
    nOK (numB n ++ r) = true ∧ nV (numB n ++ r) = n ∧ nS (numB n ++ r) = (numB n).length := by
  have hz := zig_lt n h0 h1
  have hle := leB_le 8 (zig n)
  have hlast := leB_last 8 (zig n) (by simpa using hz)
  have hd : (numB n ++ r).getD 0 0 = (leB 8 (zig n)).length := by simp [numB]
  have hL : nL (numB n ++ r) = leB 8 (zig n) := by
    unfold nL
    rw [hd]
    simp [numB]
  refine ⟨(nOK_iff _).2 ⟨by simp [numB], by omega, by rw [hd]; simp [numB]; omega, ?_⟩, ?_, ?_⟩
  · rw [hd]
    by_cases e : (leB 8 (zig n)).length = 0
    · exact .inl e
    · right
      intro e2
      have hb : (numB n ++ r).getD 0 0 < (numB n ++ r).length := by rw [hd]; simp [numB]; omega
      rcases nL_last hb with h3 | h3
      · omega
      · rw [hL, hd, e2] at h3
        exact hlast h3
  · rw [nV, hL, val_leB 8 _ (by simpa using hz), unz_zig]
  · rw [nS, hd]; simp [numB]; omega

/-- The sum. -/
def stp (s b : Nat) : Nat := ((s ^^^ b) * 16777619) % 4294967296
def smF (s : Nat) (l : List Nat) : Nat := l.foldl stp s
def sm (l : List Nat) : Nat := smF 2166136261 l
theorem stp_lt (s b : Nat) : stp s b < 4294967296 := Nat.mod_lt _ (by decide)
theorem smF_lt (s : Nat) (l : List Nat) (h : s < 4294967296) : smF s l < 4294967296 := by
  induction l generalizing s with
  | nil => exact h
  | cons b r ih => exact ih _ (stp_lt s b)
theorem sm_lt (l : List Nat) : sm l < 4294967296 := smF_lt _ l (by decide)
theorem smF_append (s : Nat) (l m : List Nat) : smF s (l ++ m) = smF (smF s l) m := by simp [smF]
theorem smF_snoc (s : Nat) (l : List Nat) (b : Nat) : smF s (l ++ [b]) = stp (smF s l) b := by unfold smF; rw [List.foldl_append, List.foldl_cons, List.foldl_nil]
theorem xor_lt {s b : Nat} (hs : s < 4294967296) (hb : b < 256) : s ^^^ b < 4294967296 := by
  have := Nat.xor_lt_two_pow (x := s) (y := b) (n := 32) (by simpa using hs) (by omega)
  simpa using this
theorem times_inj {x y : Nat} (hx : x < 4294967296) (hy : y < 4294967296) (h : (x * 16777619) % 4294967296 = (y * 16777619) % 4294967296) : x = y := by
  have key : ∀ z : Nat, z < 4294967296 → (z * 16777619 % 4294967296) * 899433627 % 4294967296 = z := by
    intro z hz
    have e := Nat.mul_mod (z * 16777619) 899433627 4294967296
    rw [show (899433627 : Nat) % 4294967296 = 899433627 from rfl] at e
    rw [← e, Nat.mul_assoc, show (16777619 : Nat) * 899433627 = 4294967296 * 3513497 + 1 from by decide, Nat.mul_add, Nat.mul_one, Nat.mul_left_comm, Nat.mul_add_mod, Nat.mod_eq_of_lt hz]
  rw [← key x hx, ← key y hy, h]
theorem xor_cancel {a b c : Nat} (h : a ^^^ b = a ^^^ c) : b = c := by
  have : a ^^^ (a ^^^ b) = a ^^^ (a ^^^ c) := by rw [h]
  rw [← Nat.xor_assoc, ← Nat.xor_assoc, Nat.xor_self, Nat.zero_xor, Nat.zero_xor] at this
  exact this
theorem stp_byte {s b c : Nat} (hs : s < 4294967296) (hb : b < 256) (hc : c < 256) (h : stp s b = stp s c) : b = c :=
  xor_cancel (times_inj (xor_lt hs hb) (xor_lt hs hc) h)
theorem stp_sum {s t b : Nat} (hs : s < 4294967296) (ht : t < 4294967296) (hb : b < 256) (h : stp s b = stp t b) : s = t := by
  have h1 := times_inj (xor_lt hs hb) (xor_lt ht hb) h
  rw [Nat.xor_comm s, Nat.xor_comm t] at h1
  exact xor_cancel h1
theorem smF_sum {s t : Nat} (l : List Nat) (hl : Byt l) (hs : s < 4294967296) (ht : t < 4294967296) (h : smF s l = smF t l) : s = t := by
  induction l generalizing s t with
  | nil => exact h
  | cons b r ih =>
    exact stp_sum hs ht (hl b (List.mem_cons_self ..)) (ih (fun x hx => hl x (List.mem_cons_of_mem _ hx)) (stp_lt _ _) (stp_lt _ _) h)
theorem smF_set {s : Nat} (l : List Nat) (hl : Byt l) (hs : s < 4294967296) (i x : Nat) (hx : x < 256) (hi : i < l.length) (h : smF s (l.set i x) = smF s l) : l.getD i 0 = x := by
  induction l generalizing s i with
  | nil => simp at hi
  | cons b r ih =>
    cases i with
    | zero =>
      have := smF_sum r (fun y hy => hl y (List.mem_cons_of_mem _ hy)) (stp_lt s x) (stp_lt s b) h
      have := stp_byte hs hx (hl b (List.mem_cons_self ..)) this
      simpa using this.symm
    | succ i => simpa using ih (fun y hy => hl y (List.mem_cons_of_mem _ hy)) (stp_lt s b) i (by simpa using hi) h

/-- The frame of bytes. -/
def frm (l : List Nat) : List Nat := spl l.length 4 ++ spl (sm l) 4 ++ l
theorem frm_len (l : List Nat) : (frm l).length = 8 + l.length := by simp [frm, spl_len]; omega
theorem frm_byt {l : List Nat} (h : Byt l) : Byt (frm l) := ((spl_byt _ _).append (spl_byt _ _)).append h
/-- The bytes of the frame that bytes begin with. -/
def insB (b : List Nat) : List Nat := (b.drop 8).take (val (b.take 4))
def insOK (b : List Nat) : Bool := decide (8 ≤ b.length ∧ val (b.take 4) ≤ 16376 ∧ val (b.take 4) ≤ b.length - 8 ∧ sm (insB b) = val ((b.drop 4).take 4))
theorem insOK_iff (b : List Nat) : insOK b = true ↔ 8 ≤ b.length ∧ val (b.take 4) ≤ 16376 ∧ val (b.take 4) ≤ b.length - 8 ∧ sm (insB b) = val ((b.drop 4).take 4) := by simp [insOK]
theorem insB_len {b : List Nat} (h : insOK b = true) : (insB b).length = val (b.take 4) := by
  have := (insOK_iff b).1 h
  unfold insB
  rw [List.length_take, List.length_drop]
  omega
theorem head4 (b : List Nat) (hb : Byt b) (h : 8 ≤ b.length) : spl (val (b.take 4)) 4 = b.take 4 ∧ spl (val ((b.drop 4).take 4)) 4 = (b.drop 4).take 4 := by
  have h1 := spl_val (b.take 4) (hb.take 4)
  have h2 := spl_val ((b.drop 4).take 4) ((hb.drop 4).take 4)
  rw [List.length_take] at h1
  rw [List.length_take, List.length_drop] at h2
  rw [show min 4 b.length = 4 by omega] at h1
  rw [show min 4 (b.length - 4) = 4 by omega] at h2
  exact ⟨h1, h2⟩
theorem part8 (b : List Nat) (n : Nat) : b.take (8 + n) = b.take 4 ++ (b.drop 4).take 4 ++ (b.drop 8).take n := by
  rw [List.take_add (i := 8), show (8 : Nat) = 4 + 4 from rfl, List.take_add (i := 4)]
theorem ins_of {b : List Nat} (hb : Byt b) (h8 : 8 ≤ b.length) (hc : val (b.take 4) ≤ 16376) (hn : val (b.take 4) ≤ b.length - 8) :
    (frm (insB b) = b.take (8 + val (b.take 4))) ↔ insOK b = true := by
  have hl : (insB b).length = val (b.take 4) := by
    unfold insB
    rw [List.length_take, List.length_drop]
    omega
  obtain ⟨e1, e2⟩ := head4 b hb h8
  rw [part8, frm, hl, e1]
  constructor
  · intro h
    have h2 := List.append_inj_left h (by simp [spl_len]; omega)
    have h3 := List.append_inj_right h2 rfl
    refine (insOK_iff b).2 ⟨h8, hc, hn, ?_⟩
    have h4 := congrArg val h3
    rwa [val_spl, Nat.mod_eq_of_lt (by have := sm_lt (insB b); omega)] at h4
  · intro h
    rw [((insOK_iff b).1 h).2.2.2, e2]
    rfl
theorem ins_frm (l t : List Nat) (hl : l.length ≤ 16376) : insOK (frm l ++ t) = true ∧ insB (frm l ++ t) = l := by
  have t4 : (frm l ++ t).take 4 = spl l.length 4 := by
    simp only [frm, List.append_assoc]
    rw [List.take_append_of_le_length (by simp [spl_len]), List.take_of_length_le (by simp [spl_len])]
  have d4 : ((frm l ++ t).drop 4).take 4 = spl (sm l) 4 := by
    simp only [frm, List.append_assoc]
    rw [List.drop_append_of_le_length (by simp [spl_len]), List.drop_of_length_le (by simp [spl_len]), List.nil_append, List.take_append_of_le_length (by simp [spl_len]), List.take_of_length_le (by simp [spl_len])]
  have v4 : val ((frm l ++ t).take 4) = l.length := by rw [t4, val_spl, Nat.mod_eq_of_lt (by omega)]
  have iB : insB (frm l ++ t) = l := by
    unfold insB
    rw [v4]
    have : (frm l ++ t).drop 8 = l ++ t := by
      have e : frm l ++ t = (spl l.length 4 ++ spl (sm l) 4) ++ (l ++ t) := by simp [frm]
      rw [e, List.drop_append_of_le_length (by simp [spl_len]), List.drop_of_length_le (by simp [spl_len]), List.nil_append]
    rw [this]
    simp
  refine ⟨(insOK_iff _).2 ⟨by simp [frm_len]; omega, by omega, by simp [v4, frm_len]; omega, ?_⟩, iB⟩
  rw [iB, d4, val_spl, Nat.mod_eq_of_lt (by have := sm_lt l; omega)]
theorem ins_cut (l : List Nat) (k : Nat) (hk : k < 8 + l.length) (hl : l.length ≤ 16376) : insOK ((frm l).take k) = false := by
  cases h : insOK ((frm l).take k) with
  | false => rfl
  | true =>
    obtain ⟨h1, h2, h3, h4⟩ := (insOK_iff _).1 h
    rw [List.length_take, frm_len] at h1 h3
    have t4 : ((frm l).take k).take 4 = spl l.length 4 := by
      rw [List.take_take, show min 4 k = 4 by omega, frm, List.append_assoc, List.take_append_of_le_length (by simp [spl_len]), List.take_of_length_le (by simp [spl_len])]
    rw [t4, val_spl, Nat.mod_eq_of_lt (by omega)] at h3
    omega
/-- Behind its length another byte. -/
theorem ins_turned (l : List Nat) (hb : Byt l) (k x : Nat) (hl : l.length ≤ 16376) (h4 : 4 ≤ k) (hk : k < 8 + l.length) (hx : x < 256) (hne : (frm l).getD k 0 ≠ x) : insOK ((frm l).set k x) = false := by
  cases h : insOK ((frm l).set k x) with
  | false => rfl
  | true =>
    exfalso
    obtain ⟨g1, g2, g3, g4⟩ := (insOK_iff _).1 h
    have t4 : ((frm l).set k x).take 4 = spl l.length 4 := by
      rw [List.take_set_of_le h4, frm, List.append_assoc, List.take_append_of_le_length (by simp [spl_len]), List.take_of_length_le (by simp [spl_len])]
    have v4 : val (((frm l).set k x).take 4) = l.length := by rw [t4, val_spl, Nat.mod_eq_of_lt (by omega)]
    unfold insB at g4
    rw [v4] at g4
    have ed : (frm l).drop 4 = spl (sm l) 4 ++ l := by
      rw [frm, List.append_assoc, List.drop_append_of_le_length (by simp [spl_len]), List.drop_of_length_le (by simp [spl_len]), List.nil_append]
    have ed8 : (frm l).drop 8 = l := by
      rw [frm, List.drop_append_of_le_length (by simp [spl_len]), List.drop_of_length_le (by simp [spl_len]), List.nil_append]
    by_cases hk8 : k < 8
    · rw [List.drop_set_of_lt hk8, ed8, List.take_length] at g4
      rw [List.drop_set, if_neg (by omega), ed, List.set_append_left _ _ (by simp [spl_len]; omega), List.take_append_of_le_length (by simp [spl_len]), List.take_of_length_le (by simp [spl_len])] at g4
      have hby : Byt ((spl (sm l) 4).set (k - 4) x) := (spl_byt _ _).set _ _ hx
      have e := spl_val _ hby
      rw [← g4, List.length_set, spl_len] at e
      have e2 := congrArg (fun z => z.getD (k - 4) 0) e
      simp only [List.getD_eq_getElem?_getD] at e2
      rw [List.getElem?_set_self (by simp [spl_len]; omega)] at e2
      apply hne
      rw [List.getD_eq_getElem?_getD]
      have e3 : (frm l)[k]? = (spl (sm l) 4)[k - 4]? := by
        have : (frm l)[k]? = ((frm l).drop 4)[k - 4]? := by rw [List.getElem?_drop]; congr 1; omega
        rw [this, ed, List.getElem?_append_left (by simp [spl_len]; omega)]
      rw [e3, e2]
      rfl
    · rw [List.drop_set, if_neg hk8, ed8, List.take_of_length_le (by simp)] at g4
      have e4 : ((frm l).set k x).drop 4 = (spl (sm l) 4 ++ l).set (k - 4) x := by rw [List.drop_set, if_neg (by omega), ed]
      rw [e4, List.set_append_right _ _ (by simp [spl_len]; omega), List.take_append_of_le_length (by simp [spl_len]), List.take_of_length_le (by simp [spl_len]), val_spl, Nat.mod_eq_of_lt (by have := sm_lt l; omega)] at g4
      have e5 := smF_set l hb (s := 2166136261) (by decide) (k - 8) x hx (by omega) g4
      apply hne
      rw [← e5, List.getD_eq_getElem?_getD, List.getD_eq_getElem?_getD]
      have : (frm l)[k]? = ((frm l).drop 8)[k - 8]? := by rw [List.getElem?_drop]; congr 1; omega
      rw [this, ed8]

/-- The frames that bytes begin with, and how many bytes they are. -/
def spt (b : List Nat) : List (List Nat) := if h : insOK b = true then insB b :: spt (b.drop (8 + (insB b).length)) else []
termination_by b.length
decreasing_by
  have := ((insOK_iff b).1 h).1
  rw [List.length_drop]
  omega
def spN (fs : List (List Nat)) : Nat := (fs.map fun f => 8 + f.length).sum
theorem spt_go {b : List Nat} (h : insOK b = true) : spt b = insB b :: spt (b.drop (8 + (insB b).length)) := by rw [spt, dif_pos h]
theorem spt_stop {b : List Nat} (h : insOK b = false) : spt b = [] := by rw [spt, dif_neg (by simp [h])]
theorem spN_snoc (fs : List (List Nat)) (f : List Nat) : spN (fs ++ [f]) = spN fs + (8 + f.length) := by simp [spN]
theorem spN_len (fs : List (List Nat)) : 8 * fs.length ≤ spN fs := by
  induction fs with
  | nil => simp [spN]
  | cons f r ih => simp [spN] at ih ⊢; omega
theorem insB_le {b : List Nat} (h : insOK b = true) : 8 + (insB b).length ≤ b.length ∧ (insB b).length ≤ 16376 := by
  rw [insB_len h]
  have := (insOK_iff b).1 h
  omega
/-- Frames one behind the other. -/
def frms (rs : List (List Nat)) : List Nat := rs.flatMap frm
theorem frms_len (rs : List (List Nat)) : (frms rs).length = spN rs := by
  induction rs with
  | nil => rfl
  | cons r t ih => simp [frms, spN, frm_len] at ih ⊢; try omega
theorem frms_byt {rs : List (List Nat)} (h : ∀ r ∈ rs, Byt r) : Byt (frms rs) := by
  intro x hx
  obtain ⟨r, hr, h1⟩ := List.mem_flatMap.1 hx
  exact frm_byt (h r hr) x h1
theorem frms_snoc (rs : List (List Nat)) (r : List Nat) : frms (rs ++ [r]) = frms rs ++ frm r := by simp [frms]
/-- Cut anywhere: those that are whole. -/
theorem spt_cut (rs : List (List Nat)) (h : ∀ r ∈ rs, r.length ≤ 16376) : ∀ (k m : Nat), m ≤ rs.length → spN (rs.take m) ≤ k → (m < rs.length → k < spN (rs.take (m + 1))) → spt ((frms rs).take k) = rs.take m := by
  induction rs with
  | nil => intro k m hm h1 h2
           simp [frms]
           exact spt_stop (by decide)
  | cons r t ih =>
    intro k m hm h1 h2
    have hr := h r (List.mem_cons_self ..)
    have ef : frms (r :: t) = frm r ++ frms t := by simp [frms]
    cases m with
    | zero =>
      have hk : k < 8 + r.length := by simpa [spN] using h2 (by simp)
      rw [ef, List.take_append_of_le_length (by rw [frm_len]; omega), List.take_zero]
      exact spt_stop (ins_cut r k hk hr)
    | succ m =>
      have hk : 8 + r.length + spN (t.take m) ≤ k := by simpa [spN, Nat.add_assoc] using h1
      rw [ef, List.take_append, List.take_of_length_le (by rw [frm_len]; omega), frm_len]
      obtain ⟨o, b⟩ := ins_frm r ((frms t).take (k - (8 + r.length))) hr
      rw [spt_go o, b, List.take_succ_cons]
      congr 1
      rw [List.drop_append_of_le_length (by rw [frm_len]; omega), List.drop_of_length_le (by rw [frm_len]; omega), List.nil_append]
      refine ih (fun x hx => h x (List.mem_cons_of_mem _ hx)) _ m (by simpa using hm) (by omega) (fun h3 => ?_)
      have := h2 (by simpa using h3)
      simp [spN, Nat.add_assoc] at this ⊢
      omega
end Go.Proofs.Ytfnageillhpjpaa
