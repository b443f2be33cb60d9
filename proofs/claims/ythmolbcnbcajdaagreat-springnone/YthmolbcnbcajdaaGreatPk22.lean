/-
  frame's small functions: turn, unturn, read, spell, Sum; bytes.Clone.
  frame.number and frame.inside.
  frame.Put, frame.Take, frame.Wrap.
  Slices that are each its own; frame.Split, frame.Unwrap, frame.Nums.
  append of numbers onto an own slice of numbers, and where it lies then.
  Nothing but these blocks has turned; what stays then.
  Parts of slices of numbers, at one operation.
  The numbers that bytes consist of: frame.Nums.
  Are slices each its own? What estuarynum.Apart does to them, step by step.
  estuarynum.Apart: true where each slice is its own.
  estuarynum.Copy and estuarynum.Kept.
  estuarynum.Over.
  The document's numbers: estuaryref04.Number, Put, Take, Nums.
  Lists of bytes that the call itself makes: an empty one, one of one slice, append of lists.
-/
import Derived.Test.YthmolbcnbcajdaaGreatPk21
import Derived.Laws.BitsAllLaws
import Derived.Test.YthmolbcnbcajdaaGreatPk11
import Derived.Test.YthmolbcnbcajdaaGreatPk04
import Derived.Test.YthmolbcnbcajdaaGreatPk05
import Derived.Test.YthmolbcnbcajdaaGreatPk03
import Derived.Lib.Strings
namespace Go.Proofs.YthmolbcnbcajdaaGreat
set_option maxRecDepth 100000
open Go.RowKit
set_option linter.unusedVariables false

theorem i64_xor0 (x : Int) (h0 : -9223372036854775808 ≤ x) (h1 : x ≤ 9223372036854775807) : bits .xor .i64 x 0 = x := by
  show IntKind.i64.wrap ((BitVec.ofInt 64 x ^^^ BitVec.ofInt 64 0).toNat : Int) = _
  rw [show BitVec.ofInt 64 0 = 0#64 from by decide, BitVec.xor_zero, BitVec.toNat_ofInt]
  simp [IntKind.wrap, IntKind.bits, IntKind.signed]
  omega
theorem i64_xor1 (x : Int) (h0 : -9223372036854775808 ≤ x) (h1 : x ≤ 9223372036854775807) : bits .xor .i64 x (-1) = -1 - x := by
  show IntKind.i64.wrap ((BitVec.ofInt 64 x ^^^ BitVec.ofInt 64 (-1)).toNat : Int) = _
  rw [show BitVec.ofInt 64 (-1) = BitVec.allOnes 64 from by decide, BitVec.xor_allOnes, BitVec.toNat_not, BitVec.toNat_ofInt]
  simp [IntKind.wrap, IntKind.bits, IntKind.signed]
  omega
theorem turned (n : Int) (h0 : -9223372036854775808 ≤ n) (h1 : n ≤ 9223372036854775807) : IntKind.u64.wrap (bits .xor .i64 (wrap64 (n * 2)) (n / 9223372036854775808)) = ((zig n : Nat) : Int) := by
  have hw : -9223372036854775808 ≤ wrap64 (n * 2) ∧ wrap64 (n * 2) ≤ 9223372036854775807 := by unfold wrap64; omega
  unfold zig
  by_cases c : n < 0
  · have e : n / 9223372036854775808 = -1 := by omega
    rw [e, i64_xor1 _ hw.1 hw.2, if_pos c, IntKind.wrap_u64]
    unfold wrap64; omega
  · have e : n / 9223372036854775808 = 0 := by omega
    rw [e, i64_xor0 _ hw.1 hw.2, if_neg c, IntKind.wrap_u64]
    unfold wrap64; omega
theorem unturned (u : Nat) (h : u < 18446744073709551616) : bits .xor .i64 ((u : Int) / 2) (wrap64 (-wrap64 (bits .and .u64 (u : Int) 1))) = unz u := by
  have e : bits .and .u64 (u : Int) 1 = ((u % 2 : Nat) : Int) := by
    rw [← nat_mask1]
    exact u64_and_nat u 1 h (by omega)
  rw [e]
  unfold unz
  rcases Nat.mod_two_eq_zero_or_one u with c | c
  · rw [c, if_neg (by omega), show wrap64 (-wrap64 ((0 : Nat) : Int)) = 0 from by unfold wrap64; omega, i64_xor0 _ (by omega) (by omega)]
    omega
  · rw [c, if_pos rfl, show wrap64 (-wrap64 ((1 : Nat) : Int)) = -1 from by unfold wrap64; omega, i64_xor1 _ (by omega) (by omega)]
    omega
theorem turn_any (n : Int) (w : World) (h0 : -9223372036854775808 ≤ n) (h1 : n ≤ 9223372036854775807) :
    Calls Tryz.prog 83 #[.int .i64 n] w fun e w' => e = .returned (.int .u64 ((zig n : Nat) : Int)) ∧ w' = w := by
  go_enter Tryz.func83, Tryz.ntmps83
  go_wp2_with fail
  go_ret
  exact ⟨ret_int (turned n h0 h1), rfl⟩
theorem unturn_any (u : Nat) (w : World) (h : u < 18446744073709551616) :
    Calls Tryz.prog 101 #[.int .u64 ((u : Nat) : Int)] w fun e w' => e = .returned (.int .i64 (unz u)) ∧ w' = w := by
  go_enter Tryz.func101, Tryz.ntmps101
  go_wp2_with fail
  go_ret
  exact ⟨ret_int (unturned u h), rfl⟩
theorem read_step (l : List Nat) (k x : Nat) (hk : k < 8) (hb : Byt l) (hx : l[k]? = some x) : bits .or .u64 ((val (l.take k) : Nat) : Int) (IntKind.u64.wrap (((x : Nat) : Int) * 2 ^ (8 * k))) = ((val (l.take (k + 1)) : Nat) : Int) := by
  have hxb := hb.at hx
  have hkl : k < l.length := (List.getElem?_eq_some_iff.1 hx).1
  have hlen : (l.take k).length = k := by rw [List.length_take]; omega
  have hv := val_lt (l.take k) (hb.take k)
  rw [hlen, show (256 : Nat) = 2 ^ 8 from rfl, ← Nat.pow_mul] at hv
  have h56 : 2 ^ (8 * k) ≤ 2 ^ 56 := Nat.pow_le_pow_right (by decide) (by omega)
  have e1 : (((x : Nat) : Int) * 2 ^ (8 * k)) = ((x * 2 ^ (8 * k) : Nat) : Int) := by rw [Int.natCast_mul, Int.natCast_pow]; rfl
  have hlt : x * 2 ^ (8 * k) < 18446744073709551616 := by
    have : x * 2 ^ (8 * k) ≤ 255 * 2 ^ 56 := Nat.mul_le_mul (by omega) h56
    omega
  rw [e1, IntKind.wrap_u64, Int.emod_eq_of_lt (by omega) (by omega), u64_or_nat _ _ (by omega) hlt, Nat.or_comm, nat_join (8 * k) _ _ (Nat.mul_mod_left ..) hv]
  congr 1
  rw [List.take_add_one, hx, Option.toList_some, val_snoc, hlen, show (256 : Nat) = 2 ^ 8 from rfl, ← Nat.pow_mul]
  omega
theorem read_any (v : Value) (l : List Nat) (w : World) (hv : Sl w v l) (hb : Byt l) (h8 : l.length ≤ 8) :
    Calls Tryz.prog 88 #[v] w fun e w' => e = .returned (.int .u64 ((val l : Nat) : Int)) ∧ w' = w := by
  obtain ⟨q, cap, g, off, rfl, hc, hm, hp, hg, hr⟩ := hv.open
  clear hv
  generalize hn : l.length = n at *
  go_enter Tryz.func88, Tryz.ntmps88
  go_wp2_with fail
  go_loopw [3, 7] (fun s i wr => ∃ k : Nat, k ≤ n ∧ i = .int .i64 (k : Int) ∧ s = .int .u64 ((val (l.take k) : Nat) : Int) ∧ wr = w) (fun _ i _ => n - (intOf i).toNat)
  case atStart => exact ⟨0, by omega, rfl, rfl, rfl⟩
  case round =>
    obtain ⟨k, hk, rfl, rfl, rfl⟩ := hrel
    by_cases c : k = n
    · subst c
      rw [List.take_of_length_le (by omega)]
      clear hp hg hr hb
      go_wp2_with fail
      go_ret
      exact ⟨rfl, rfl⟩
    · obtain ⟨x, hx⟩ : ∃ x, l[k]? = some x := ⟨l[k], List.getElem?_eq_getElem (by omega)⟩
      obtain rfl := hp (by omega)
      have d := hr k x hx
      have hxb := hb.at hx
      have hki : (k : Int) < (n : Int) := by omega
      have hkn : k < n := by omega
      have HS : Hid (bits .or .u64 ((val (l.take k) : Nat) : Int) (IntKind.u64.wrap (((x : Nat) : Int) * 2 ^ (8 * k))) = ((val (l.take (k + 1)) : Nat) : Int)) := read_step l k x (by omega) hb hx
      clear hr hp hg hb hx
      go_wp2_with fail
      refine ⟨⟨k + 1, by omega, rfl, by rw [HS.out], trivial⟩, by simp only [intOf]; omega⟩

section
variable {ops : Array Oper} {rest : List Oper} {o : Oper} {a : Act} {w : World} {Q : Exit → Act → World → Prop}
/-- A slice of bytes, just made. -/
theorem own_newB (w : World) (xs : List Nat) (n : Nat) (hn : xs.length = n) (hm : n ≤ maxLen) (base : Nat) (hb : base ≤ w.heap.size) : (w.alloc (.cells (bys xs).toArray 5)).ownsRow base 5 1 (.slice (some ⟨w.heap.size, 0, none⟩) n n) n (bys xs) := by
  refine ⟨by rw [bys_len, hn, Nat.mul_one], .inr ⟨w.heap.size, n, (bys xs).toArray, rfl, hb, ?_, Nat.le_refl _, hm, ?_, ?_⟩⟩
  · show (w.heap.push _)[w.heap.size]? = _; simp
  · simp [bys_len, hn]
  · rw [Nat.mul_one, ← hn, ← bys_len xs]; simp
theorem bsb0 (w : World) : (Instr.buildSlice 68 0 #[]).run Tryz.prog w = .ok (.slice (some ⟨w.heap.size, 0, none⟩) 0 0) (w.alloc (.cells (bys []).toArray 5)) := by kernel_rfl
theorem bsb1 (a : Nat) (w : World) : (Instr.buildSlice 68 1 #[(0, .int .u8 ((a : Nat) : Int))]).run Tryz.prog w = .ok (.slice (some ⟨w.heap.size, 0, none⟩) 1 1) (w.alloc (.cells (bys [a]).toArray 5)) := by kernel_rfl
theorem bsb2 (a b : Nat) (w : World) : (Instr.buildSlice 68 2 #[(0, .int .u8 ((a : Nat) : Int)), (1, .int .u8 ((b : Nat) : Int))]).run Tryz.prog w = .ok (.slice (some ⟨w.heap.size, 0, none⟩) 2 2) (w.alloc (.cells (bys [a, b]).toArray 5)) := by kernel_rfl
theorem bsb4 (a b c d : Nat) (w : World) : (Instr.buildSlice 68 4 #[(0, .int .u8 ((a : Nat) : Int)), (1, .int .u8 ((b : Nat) : Int)), (2, .int .u8 ((c : Nat) : Int)), (3, .int .u8 ((d : Nat) : Int))]).run Tryz.prog w = .ok (.slice (some ⟨w.heap.size, 0, none⟩) 4 4) (w.alloc (.cells (bys [a, b, c, d]).toArray 5)) := by kernel_rfl
theorem bs_byW {K : Act → World → Prop} (d : Option Tmp) (hd : o.dst = d) {n : Nat} {parts : Array (Nat × Operand)} (ho : o.op = .buildSlice 68 n parts) (xs : List Nat) {vs : Array (Nat × Value)} (hl : parts.map (fun (i, x) => (i, a.eval x)) = vs)
    (hrun : (Instr.buildSlice 68 n vs).run Tryz.prog w = .ok (.slice (some ⟨w.heap.size, 0, none⟩) n n) (w.alloc (.cells (bys xs).toArray 5))) (hn : xs.length = n) (hm : n ≤ maxLen)
    (h : ∀ W', W'.ownsRow w.heap.size 5 1 (.slice (some ⟨w.heap.size, 0, none⟩) n n) n (bys xs) → Below w.heap.size w W' → W'.heap.size = w.heap.size + 1 → K (a.put d (.slice (some ⟨w.heap.size, 0, none⟩) n n)) W') : o.wp Tryz.prog a w K Q := by
  subst hd
  unfold Oper.wp execOp
  simp only [ho, Sem.run_bind, hl, hrun, Result.andThen_ok]
  exact h _ (own_newB w xs n hn hm _ (Nat.le_refl _)) ((Below.refl _ _).alloc (Nat.le_refl _) _) (by simp)
theorem bs_by (hw : Region.wanted o (yielded ops a.tmps) = true) {n : Nat} {parts : Array (Nat × Operand)} (ho : o.op = .buildSlice 68 n parts) (xs : List Nat) {vs : Array (Nat × Value)} (hl : parts.map (fun (i, x) => (i, a.eval x)) = vs)
    (hrun : (Instr.buildSlice 68 n vs).run Tryz.prog w = .ok (.slice (some ⟨w.heap.size, 0, none⟩) n n) (w.alloc (.cells (bys xs).toArray 5))) (hn : xs.length = n) (hm : n ≤ maxLen)
    (h : ∀ W', W'.ownsRow w.heap.size 5 1 (.slice (some ⟨w.heap.size, 0, none⟩) n n) n (bys xs) → Below w.heap.size w W' → W'.heap.size = w.heap.size + 1 → wpList Tryz.prog ops Q rest (a.put o.dst (.slice (some ⟨w.heap.size, 0, none⟩) n n)) W') : wpList Tryz.prog ops Q (o :: rest) a w := by
  unfold wpList
  rw [if_pos hw]
  left
  exact bs_byW o.dst rfl ho xs hl hrun hn hm h
/-- append of bytes onto an own slice: its run. -/
theorem app_runZ (A : World) (ty : TypeId) {v vx : Value} {n k : Nat} {l m : List Nat} (hown : w.ownsRow A.heap.size 5 1 v n (bys l)) (hsl : Sl w vx m) (hm : m.length = k) (h63 : n + k ≤ 140737488355328) (hA : Below A.heap.size A w) :
    ∃ v' w', (Builtin.append_ #[68, 68] ty #[v, vx]).run Tryz.prog w = .ok v' w' ∧ w'.ownsRow A.heap.size 5 1 v' (n + k) (bys (l ++ m)) ∧ (v' = .slice none 0 0 ↔ v = .slice none 0 0 ∧ k = 0) ∧ Below A.heap.size A w' ∧ w.grownBy w' v.ownBlock ∧ (v'.ownBlock = v.ownBlock ∨ v'.ownBlock = some w.heap.size) := by
  obtain ⟨i, hi, hz0, hz1, hz2⟩ := info_parts infoByte
  subst hm
  obtain ⟨q, cap, rfl, hq, hsrc⟩ := hsl.src
  cases q with
  | none =>
    have h0 := hq rfl
    have hm0 : m = [] := List.eq_nil_of_length_eq_zero h0
    subst hm0
    exact ⟨v, w, append_none (P := Tryz.prog) w A.heap.size 68 ty 5 i 1 cap Tryz.underlying68 hi v n (bys l) hown, by simpa using hown, by simp, hA, ⟨rfl, rfl, rfl, Nat.le_refl _, fun _ _ _ => rfl⟩, .inl rfl⟩
  | some ad =>
    obtain ⟨v', w', hr, h2, h3, h4, h5⟩ := run_append_own_at (P := Tryz.prog) w A.heap.size 68 ty 5 i _ 1 1 Tryz.underlying68 hi hz0 hz1 hz2 rfl (by omega) v n (bys l) hown ad m.length cap (bys m) (by rw [bys_len, Nat.mul_one]) (hsrc ad rfl) (bys_one m) (by unfold maxLen; omega) (by omega) hA.size
    refine ⟨v', w', hr, by rw [← bys_append]; exact h2, h4, ?_, h3, h5⟩
    refine hA.grown h3 hA.size (fun r hr => ?_)
    rcases hown.2 with ⟨rfl, _⟩ | ⟨g', cap', cur', rfl, hbg, _⟩
    · cases hr
    · cases hr; exact hbg
/-- append of bytes onto an own slice: its run. -/
theorem app_run (A : World) (ty : TypeId) {v vx : Value} {n k : Nat} {l m : List Nat} (hown : w.ownsRow A.heap.size 5 1 v n (bys l)) (hsl : Sl w vx m) (hm : m.length = k) (h63 : n + k ≤ 1000000) (hA : Below A.heap.size A w) :
    ∃ v' w', (Builtin.append_ #[68, 68] ty #[v, vx]).run Tryz.prog w = .ok v' w' ∧ w'.ownsRow A.heap.size 5 1 v' (n + k) (bys (l ++ m)) ∧ (v' = .slice none 0 0 ↔ v = .slice none 0 0 ∧ k = 0) ∧ Below A.heap.size A w' ∧ w.grownBy w' v.ownBlock ∧ (v'.ownBlock = v.ownBlock ∨ v'.ownBlock = some w.heap.size) :=
  app_runZ A ty hown hsl hm (Nat.le_trans h63 (by omega)) hA
theorem app_byZW {K : Act → World → Prop} (A : World) (d : Option Tmp) (hd : o.dst = d) {s x : Operand} (ho : o.op = .call { callee := .builtin .append, args := #[s, x], argTypes := #[68, 68] })
    {v vx : Value} {n k : Nat} {l m : List Nat} (hs : a.eval s = v) (hown : w.ownsRow A.heap.size 5 1 v n (bys l)) (hx : a.eval x = vx) (hsl : Sl w vx m) (hm : m.length = k) (h63 : n + k ≤ 140737488355328) (hA : Below A.heap.size A w)
    (h : ∀ v' w', w'.ownsRow A.heap.size 5 1 v' (n + k) (bys (l ++ m)) → (v' = .slice none 0 0 ↔ v = .slice none 0 0 ∧ k = 0) → Below A.heap.size A w' → w.grownBy w' v.ownBlock → (v'.ownBlock = v.ownBlock ∨ v'.ownBlock = some w.heap.size) → K (a.put d v') w') : o.wp Tryz.prog a w K Q := by
  subst hd
  obtain ⟨v', w', hr, h1, h2, h3, h4, h5⟩ := app_runZ A o.type hown hsl hm h63 hA
  unfold Oper.wp execOp
  simp only [ho, resolve, invoke, builtin, Sem.run_bind, Sem.run_pure, Result.andThen_ok, List.map_toArray, List.map_cons, List.map_nil, hs, hx, hr]
  exact h v' w' h1 h2 h3 h4 h5
theorem app_byW {K : Act → World → Prop} (A : World) (d : Option Tmp) (hd : o.dst = d) {s x : Operand} (ho : o.op = .call { callee := .builtin .append, args := #[s, x], argTypes := #[68, 68] })
    {v vx : Value} {n k : Nat} {l m : List Nat} (hs : a.eval s = v) (hown : w.ownsRow A.heap.size 5 1 v n (bys l)) (hx : a.eval x = vx) (hsl : Sl w vx m) (hm : m.length = k) (h63 : n + k ≤ 1000000) (hA : Below A.heap.size A w)
    (h : ∀ v' w', w'.ownsRow A.heap.size 5 1 v' (n + k) (bys (l ++ m)) → (v' = .slice none 0 0 ↔ v = .slice none 0 0 ∧ k = 0) → Below A.heap.size A w' → w.grownBy w' v.ownBlock → (v'.ownBlock = v.ownBlock ∨ v'.ownBlock = some w.heap.size) → K (a.put d v') w') : o.wp Tryz.prog a w K Q := by
  subst hd
  obtain ⟨v', w', hr, h1, h2, h3, h4, h5⟩ := app_run A o.type hown hsl hm h63 hA
  unfold Oper.wp execOp
  simp only [ho, resolve, invoke, builtin, Sem.run_bind, Sem.run_pure, Result.andThen_ok, List.map_toArray, List.map_cons, List.map_nil, hs, hx, hr]
  exact h v' w' h1 h2 h3 h4 h5
theorem app_byZ (A : World) (hw : Region.wanted o (yielded ops a.tmps) = true) {s x : Operand} (ho : o.op = .call { callee := .builtin .append, args := #[s, x], argTypes := #[68, 68] })
    {v vx : Value} {n k : Nat} {l m : List Nat} (hs : a.eval s = v) (hown : w.ownsRow A.heap.size 5 1 v n (bys l)) (hx : a.eval x = vx) (hsl : Sl w vx m) (hm : m.length = k) (h63 : n + k ≤ 140737488355328) (hA : Below A.heap.size A w)
    (h : ∀ v' w', w'.ownsRow A.heap.size 5 1 v' (n + k) (bys (l ++ m)) → (v' = .slice none 0 0 ↔ v = .slice none 0 0 ∧ k = 0) → Below A.heap.size A w' → w.grownBy w' v.ownBlock → (v'.ownBlock = v.ownBlock ∨ v'.ownBlock = some w.heap.size) → wpList Tryz.prog ops Q rest (a.put o.dst v') w') : wpList Tryz.prog ops Q (o :: rest) a w := by
  unfold wpList
  rw [if_pos hw]
  left
  exact app_byZW A o.dst rfl ho hs hown hx hsl hm h63 hA h
theorem app_by (A : World) (hw : Region.wanted o (yielded ops a.tmps) = true) {s x : Operand} (ho : o.op = .call { callee := .builtin .append, args := #[s, x], argTypes := #[68, 68] })
    {v vx : Value} {n k : Nat} {l m : List Nat} (hs : a.eval s = v) (hown : w.ownsRow A.heap.size 5 1 v n (bys l)) (hx : a.eval x = vx) (hsl : Sl w vx m) (hm : m.length = k) (h63 : n + k ≤ 1000000) (hA : Below A.heap.size A w)
    (h : ∀ v' w', w'.ownsRow A.heap.size 5 1 v' (n + k) (bys (l ++ m)) → (v' = .slice none 0 0 ↔ v = .slice none 0 0 ∧ k = 0) → Below A.heap.size A w' → w.grownBy w' v.ownBlock → (v'.ownBlock = v.ownBlock ∨ v'.ownBlock = some w.heap.size) → wpList Tryz.prog ops Q rest (a.put o.dst v') w') : wpList Tryz.prog ops Q (o :: rest) a w := by
  unfold wpList
  rw [if_pos hw]
  left
  exact app_byW A o.dst rfl ho hs hown hx hsl hm h63 hA h
end
theorem spell_step (u k : Nat) (hu : u < 18446744073709551616) : ((u : Nat) : Int) / 2 ^ (8 * k) % 256 = ((u / 256 ^ k % 256 : Nat) : Int) := by
  rw [Int.natCast_emod, Int.natCast_ediv, Int.natCast_pow, show (256 : Nat) = 2 ^ 8 from rfl, Int.natCast_pow, ← Int.pow_mul]
  rfl

set_option maxHeartbeats 400000 in
theorem spell_any (A : World) (v : Value) (l : List Nat) (n u s : Nat) (w : World) (hA : Below A.heap.size A w) (hown : w.ownsRow A.heap.size 5 1 v n (bys l)) (hn : n ≤ 500000) (hs : s ≤ 8) (hu : u < 18446744073709551616) :
    Calls Tryz.prog 76 #[v, .int .u64 ((u : Nat) : Int), .int .i64 ((s : Nat) : Int)] w fun e w' => ∃ v', e = .returned v' ∧ w'.ownsRow A.heap.size 5 1 v' (n + s) (bys (l ++ spl u s)) ∧ Below A.heap.size A w' := by
  go_enter Tryz.func76, Tryz.ntmps76
  go_wp2_with fail
  go_loopw [0, 9] (fun x i wr => ∃ k : Nat, k ≤ s ∧ i = .int .i64 (k : Int) ∧ wr.ownsRow A.heap.size 5 1 x (n + k) (bys (l ++ spl u k)) ∧ Below A.heap.size A wr) (fun _ i _ => s - (intOf i).toNat)
  case atStart => exact ⟨0, by omega, rfl, by simpa [spl] using hown, hA⟩
  case round =>
    clear hown hA
    obtain ⟨k, hk, rfl, hown, hA⟩ := hrel
    by_cases c : k = s
    · subst c
      go_wp2_with fail
      go_ret
      exact ⟨_, rfl, hown, hA⟩
    · have hki : (k : Int) < (s : Int) := by omega
      have hkn : k < s := by omega
      have HS : Hid (((u : Nat) : Int) / 2 ^ (8 * k) % 256 = ((u / 256 ^ k % 256 : Nat) : Int)) := spell_step u k hu
      go_wp2_with (first
        | (refine bs_by rfl rfl [u / 256 ^ k % 256] (vs := #[(0, .int .u8 ((u / 256 ^ k % 256 : Nat) : Int))]) (by rw [← HS.out]; simp only [List.map_toArray, List.map_cons, List.map_nil]; rfl) (bsb1 _ _) rfl (by decide) ?_; intro W1 hN b1 z1)
        | (at_builtin; refine app_by A rfl rfl rfl (own_keep hown b1) rfl (own_sl hN).2 rfl (by show n + k + 1 ≤ _; omega) (ab_trans hA b1) ?_; intro v' W2 hown2 hnil2 hA2 hgr2 hat2))
      refine ⟨⟨k + 1, by omega, rfl, ?_, hA2⟩, by simp only [intOf]; omega⟩
      rw [List.append_assoc] at hown2
      exact hown2

theorem eq_nil (q : Option Addr) (n c : Nat) (w : World) : (binOp .eql 68 (.slice q n c) (.slice none 0 0)).run Tryz.prog w = .ok (.bool q.isNone) w := by
  cases q <;> kernel_rfl
set_option maxHeartbeats 400000 in
theorem clone_any (v : Value) (l : List Nat) (w : World) (hv : Sl w v l) (hn : l.length ≤ 1000000) :
    Calls Tryz.prog 62 #[v] w fun e w' => ∃ v', e = .returned v' ∧ w'.ownsRow w.heap.size 5 1 v' l.length (bys l) ∧ Below w.heap.size w w' := by
  obtain ⟨q, cap, g, off, rfl, hc, hm, hp, hg, hr⟩ := hv.open
  cases q with
  | none =>
    have h0 : ¬ 0 < l.length := fun h => by have := hp h; cases this
    have : l = [] := List.eq_nil_of_length_eq_zero (by omega)
    subst this
    clear hv hr hp hg
    have he := eq_nil none 0 cap w
    go_enter Tryz.func62, Tryz.ntmps62
    go_wp2_with fail
    go_ret
    exact ⟨_, rfl, World.ownsRow_nil w _ _ _, Below.refl _ _⟩
  | some ad =>
    clear hr hp hg
    generalize hl : l.length = n at *
    have he := eq_nil (some ad) n cap w
    go_enter Tryz.func62, Tryz.ntmps62
    go_wp2_with (first
        | (refine bs_by rfl rfl [] (vs := #[]) (by simp) (bsb0 _) rfl (by decide) ?_; intro W1 hN b1 z1)
        | (at_builtin; refine app_by w rfl rfl rfl hN rfl (hv.keep b1) hl (by omega) b1 ?_; intro v' W2 hown2 hnil2 hA2 hgr2 hat2))
    go_ret
    exact ⟨_, rfl, by simpa using hown2, hA2⟩
theorem sum_step (s x : Nat) (hs : s < 4294967296) (hx : x < 256) : bits .xor .u32 ((s : Nat) : Int) ((x : Nat) : Int) * 16777619 % 4294967296 = ((stp s x : Nat) : Int) := by
  rw [u32_xor_nat s x hs (by omega), stp]
  omega
theorem flat_take (ls : List (List Nat)) (k : Nat) (l : List Nat) (h : ls[k]? = some l) : (ls.take (k + 1)).flatten = (ls.take k).flatten ++ l := by
  rw [List.take_add_one, h, Option.toList_some, List.flatten_append]; simp

set_option maxHeartbeats 400000 in
theorem sum_any (v : Value) (vs : List Value) (ls : List (List Nat)) (w : World) (hv : Ls w v vs ls) (hb : ∀ l ∈ ls, Byt l) :
    Calls Tryz.prog 77 #[v] w fun e w' => e = .returned (.int .u32 ((sm ls.flatten : Nat) : Int)) ∧ w' = w := by
  obtain ⟨q, cap, g, off, rfl, hc, hm, hp, hg, hr⟩ := hv.open
  obtain ⟨hlen, -, hE⟩ := hv
  generalize hn : ls.length = n at *
  go_enter Tryz.func77, Tryz.ntmps77
  go_wp2_with fail
  go_loopw [3, 10] (fun s i wr => ∃ k : Nat, k ≤ n ∧ i = .int .i64 (k : Int) ∧ s = .int .u32 ((sm (ls.take k).flatten : Nat) : Int) ∧ wr = w) (fun _ i _ => n - (intOf i).toNat)
  case atStart => exact ⟨0, by omega, rfl, rfl, rfl⟩
  case round =>
    obtain ⟨k, hk, rfl, rfl, rfl⟩ := hrel
    by_cases c : k = n
    · subst c
      rw [List.take_of_length_le (by omega)]
      clear hp hg hr hb hE
      go_wp2_with fail
      go_ret
      exact ⟨rfl, rfl⟩
    · obtain ⟨x, hx⟩ : ∃ x, vs[k]? = some x := ⟨vs[k], List.getElem?_eq_getElem (by omega)⟩
      obtain ⟨l, hl⟩ : ∃ l, ls[k]? = some l := ⟨ls[k], List.getElem?_eq_getElem (by omega)⟩
      obtain rfl := hp (by omega)
      have d := hr k x hx
      obtain ⟨q2, cap2, g2, off2, rfl, hc2, hm2, hp2, hg2, hr2⟩ := (hE k x l hx hl).open
      have hbl := hb l (List.mem_of_getElem? hl)
      have hki : (k : Int) < (n : Int) := by omega
      have hkn : k < n := by omega
      have HF : Hid ((ls.take (k + 1)).flatten = (ls.take k).flatten ++ l) := flat_take ls k l hl
      clear hr hp hg hb hx hE hl
      generalize hn2 : l.length = n2 at *
      go_wp2_with fail
      go_loopw [3, 16] (fun s i wr' => ∃ j : Nat, j ≤ n2 ∧ i = .int .i64 (j : Int) ∧ s = .int .u32 ((sm ((ls.take k).flatten ++ l.take j) : Nat) : Int) ∧ wr' = wr) (fun _ i _ => n2 - (intOf i).toNat)
      case atStart => exact ⟨0, by omega, rfl, by simp, rfl⟩
      case round =>
        obtain ⟨j, hj, rfl, rfl, rfl⟩ := hrel
        by_cases c2 : j = n2
        · subst c2
          have ht : l.take j = l := List.take_of_length_le (by omega)
          rw [ht, ← HF.out]
          clear ht
          clear hp2 hg2 hr2 hbl
          go_wp2_with fail
          exact ⟨⟨k + 1, by omega, rfl, rfl, trivial⟩, by simp only [intOf]; omega⟩
        · obtain ⟨x, hx⟩ : ∃ x, l[j]? = some x := ⟨l[j], List.getElem?_eq_getElem (by omega)⟩
          obtain rfl := hp2 (by omega)
          have d2 := hr2 j x hx
          have hxb := hbl.at hx
          have hji : (j : Int) < (n2 : Int) := by omega
          have hjn : j < n2 := by omega
          have HS : Hid (bits .xor .u32 ((sm ((ls.take k).flatten ++ l.take j) : Nat) : Int) ((x : Nat) : Int) * 16777619 % 4294967296 = ((sm ((ls.take k).flatten ++ l.take (j + 1)) : Nat) : Int)) := by
            show _ = _
            rw [sum_step _ _ (sm_lt _) hxb, List.take_add_one, hx, Option.toList_some, ← List.append_assoc]
            unfold sm
            rw [smF_snoc]
          clear hr2 hp2 hg2 hbl hx
          go_wp2_with fail
          exact ⟨⟨j + 1, by omega, rfl, by rw [HS.out], trivial⟩, by simp only [intOf]; omega⟩
end Go.Proofs.YthmolbcnbcajdaaGreat
namespace Go.Proofs.YthmolbcnbcajdaaGreat
set_option maxRecDepth 100000
open Go.RowKit
set_option linter.unusedVariables false

theorem getD_at {l : List Nat} {j : Nat} (h : j < l.length) : l[j]? = some (l.getD j 0) := by
  rw [List.getD_eq_getElem?_getD, List.getElem?_eq_getElem h]; rfl
/-- A part of a slice. -/
theorem Sl.sub {W : World} {q : Option Addr} {n cap : Nat} {l : List Nat} (h : Sl W (.slice q n cap) l) {i j sc : Nat} {v : Value} (hij : i ≤ j) (hjn : j ≤ n) (hsc : sc ≤ cap) (hjc : j ≤ sc) (hv : v = sliced q i j sc 1) : Sl W v ((l.drop i).take (j - i)) := by
  obtain ⟨q', cap', e, h1, h2, h3⟩ := h
  cases e
  have hl : ((l.drop i).take (j - i)).length = j - i := by rw [List.length_take, List.length_drop]; omega
  subst hv
  unfold sliced
  by_cases c : sc = i
  · rw [if_pos c]
    refine ⟨q, sc - i, by rw [hl], by omega, by unfold maxLen at *; omega, fun h0 => ?_⟩
    rw [hl] at h0
    omega
  · rw [if_neg c]
    refine ⟨_, sc - i, by rw [hl], by omega, by unfold maxLen at *; omega, fun h0 => ?_⟩
    rw [hl] at h0
    obtain ⟨g, off, rfl, hg, hr⟩ := h3 (by omega)
    refine ⟨g, off + i, by rw [Option.map_some, Addr.add_mid, Nat.mul_one], hg, brow_take (brow_drop hr i) _⟩
theorem sizeB (w : World) : (sizeOf (Tryz.prog.elem 68)).run Tryz.prog w = .ok 1 w := by kernel_rfl
theorem sizeB' (w : World) : (sizeOf 5).run Tryz.prog w = .ok 1 w := by kernel_rfl
theorem eltB : Tryz.prog.underlying 68 = some (.slice (Tryz.prog.elem 68)) := by kernel_rfl
section
variable {ops : Array Oper} {rest : List Oper} {o : Oper} {a : Act} {w : World} {Q : Exit → Act → World → Prop}
theorem slb_lh_run {ρ : Operand → Value} {x y z : Operand} (ho : o.op = .slice 68 x (some y) (some z) none) {q : Option Addr} {n cap i j : Nat} {I J : Int} {ki kj : IntKind}
    (hx : ρ x = .slice q n cap) (hy : ρ y = .int ki I) (hz : ρ z = .int kj J) (hI : I = (i : Int)) (hJ : J = (j : Int)) (h1 : i ≤ j) (h2 : j ≤ cap) : (execOp ρ o).run Tryz.prog w = .ok (.value (sliced q i j cap 1)) w := by
  subst hI; subst hJ
  unfold execOp
  simp only [ho, hx, hy, hz, Option.map_some, Option.map_none, Sem.run_bind, run_sliceAt_slice w 68 _ _ _ _ eltB, run_slice_lh w 68 q n cap eltB _ _ (i : Int) (j : Int) (by omega) (by omega) (by omega), sizeB, Result.andThen_ok, Sem.run_pure, Int.toNat_natCast]
theorem slb_l_run {ρ : Operand → Value} {x y : Operand} (ho : o.op = .slice 68 x (some y) none none) {q : Option Addr} {n cap i : Nat} {I : Int} {ki : IntKind}
    (hx : ρ x = .slice q n cap) (hy : ρ y = .int ki I) (hI : I = (i : Int)) (h1 : i ≤ n) (h2 : n ≤ cap) : (execOp ρ o).run Tryz.prog w = .ok (.value (sliced q i n cap 1)) w := by
  subst hI
  unfold execOp
  simp only [ho, hx, hy, Option.map_some, Option.map_none, Sem.run_bind, run_sliceAt_slice w 68 _ _ _ _ eltB, run_slice_l w 68 q n cap eltB _ (i : Int) (by omega) (by omega), sizeB, Result.andThen_ok, Sem.run_pure, Int.toNat_natCast]
theorem slb_h_run {ρ : Operand → Value} {x z : Operand} (ho : o.op = .slice 68 x none (some z) none) {q : Option Addr} {n cap j : Nat} {J : Int} {kj : IntKind}
    (hx : ρ x = .slice q n cap) (hz : ρ z = .int kj J) (hJ : J = (j : Int)) (h2 : j ≤ cap) : (execOp ρ o).run Tryz.prog w = .ok (.value (sliced q 0 j cap 1)) w := by
  subst hJ
  unfold execOp
  simp only [ho, hx, hz, Option.map_some, Option.map_none, Sem.run_bind, run_sliceAt_slice w 68 _ _ _ _ eltB, run_slice_h w 68 q n cap eltB _ (j : Int) (by omega) (by omega), sizeB, Result.andThen_ok, Sem.run_pure, Int.toNat_natCast]
end
theorem sliced_form (q : Option Addr) (i j m : Nat) : ∃ q', sliced q i j m 1 = .slice q' (j - i) (m - i) := by
  unfold sliced; exact ⟨_, rfl⟩

section
variable {ops : Array Oper} {rest : List Oper} {o : Oper} {a : Act} {w : World} {Q : Exit → Act → World → Prop}
/-- 'b[i:j]' of bytes. -/
theorem slb_lh (hw : Region.wanted o (yielded ops a.tmps) = true) {x y z : Operand} (ho : o.op = .slice 68 x (some y) (some z) none) {q : Option Addr} {n cap : Nat} {I J : Int} {ki kj : IntKind} {l : List Nat} (i j : Nat)
    (hx : a.eval x = .slice q n cap) (hy : a.eval y = .int ki I) (hz : a.eval z = .int kj J) (hI : I = (i : Int)) (hJ : J = (j : Int)) (h1 : i ≤ j) (h2 : j ≤ n) (hsl : Sl w (.slice q n cap) l)
    (hK : ∀ q', Sl w (.slice q' (j - i) (cap - i)) ((l.drop i).take (j - i)) → wpList Tryz.prog ops Q rest (a.put o.dst (.slice q' (j - i) (cap - i))) w) : wpList Tryz.prog ops Q (o :: rest) a w := by
  have hc := hsl.len
  obtain ⟨q', e⟩ := sliced_form q i j cap
  have hr := slb_lh_run (w := w) ho hx hy hz hI hJ h1 (by omega)
  rw [e] at hr
  exact valS hw _ hr (hK q' (hsl.sub h1 h2 (Nat.le_refl _) (by omega) e.symm))
/-- 'b[i:]' of bytes. -/
theorem slb_l (hw : Region.wanted o (yielded ops a.tmps) = true) {x y : Operand} (ho : o.op = .slice 68 x (some y) none none) {q : Option Addr} {n cap : Nat} {I : Int} {ki : IntKind} {l : List Nat} (i : Nat)
    (hx : a.eval x = .slice q n cap) (hy : a.eval y = .int ki I) (hI : I = (i : Int)) (h1 : i ≤ n) (hsl : Sl w (.slice q n cap) l)
    (hK : ∀ q', Sl w (.slice q' (n - i) (cap - i)) (l.drop i) → wpList Tryz.prog ops Q rest (a.put o.dst (.slice q' (n - i) (cap - i))) w) : wpList Tryz.prog ops Q (o :: rest) a w := by
  have hc := hsl.len
  obtain ⟨q', e⟩ := sliced_form q i n cap
  have hr := slb_l_run (w := w) ho hx hy hI h1 hc.2.1
  rw [e] at hr
  refine valS hw _ hr (hK q' ?_)
  have := hsl.sub h1 (Nat.le_refl _) (Nat.le_refl _) hc.2.1 e.symm
  rwa [List.take_of_length_le (by rw [List.length_drop]; omega)] at this
/-- 'b[:j]' of bytes. -/
theorem slb_h (hw : Region.wanted o (yielded ops a.tmps) = true) {x z : Operand} (ho : o.op = .slice 68 x none (some z) none) {q : Option Addr} {n cap : Nat} {J : Int} {kj : IntKind} {l : List Nat} (j : Nat)
    (hx : a.eval x = .slice q n cap) (hz : a.eval z = .int kj J) (hJ : J = (j : Int)) (h2 : j ≤ n) (hsl : Sl w (.slice q n cap) l)
    (hK : ∀ q', Sl w (.slice q' j cap) (l.take j) → wpList Tryz.prog ops Q rest (a.put o.dst (.slice q' j cap)) w) : wpList Tryz.prog ops Q (o :: rest) a w := by
  have hc := hsl.len
  obtain ⟨q', e⟩ := sliced_form q 0 j cap
  have hr := slb_h_run (w := w) ho hx hz hJ (by omega)
  rw [e] at hr
  exact valS hw _ hr (hK q' (hsl.sub (Nat.zero_le _) h2 (Nat.le_refl _) (by omega) e.symm))
end

set_option maxHeartbeats 400000 in
theorem number_no (v : Value) (l : List Nat) (w : World) (hv : Sl w v l) (hb : Byt l) (hno : nOK l = false) :
    Calls Tryz.prog 90 #[v] w fun e w' => e = .returned (.tuple #[.int .i64 0, .int .i64 0, .bool false]) ∧ w' = w := by
  have hno' : ¬ (nOK l = true) := by simp [hno]
  rw [nOK_iff] at hno'
  obtain ⟨q, cap, g, off, rfl, hc, hm, hp, hg, hr⟩ := hv.open
  by_cases h0 : 0 < l.length
  · obtain rfl := hp h0
    have d0 := hr 0 _ (getD_at h0)
    have hx0 := hb.getD 0
    generalize hn : l.length = n at *
    generalize hcc : l.getD 0 0 = c at *
    have e0 : ((n : Int) == 0) = false := by simp; omega
    rw [Nat.add_zero] at d0
    by_cases h8 : c ≤ 8
    · by_cases hcn : c < n
      · have hz : c ≠ 0 ∧ l.getD c 0 = 0 := by
          refine ⟨fun e => hno' ⟨h0, h8, hcn, .inl e⟩, ?_⟩
          by_cases e : l.getD c 0 = 0
          · exact e
          · exact absurd ⟨h0, h8, hcn, .inr e⟩ hno'
        have dc := hr c _ (getD_at (by omega))
        rw [hz.2] at dc
        obtain ⟨hz1, -⟩ := hz
        clear hr hp hg hb hno hno' hcc
        go_enter Tryz.func90, Tryz.ntmps90
        go_wp2_with fail
        go_ret3
        exact ⟨rfl, rfl⟩
      · clear hr hp hg hb hno hno' hcc
        go_enter Tryz.func90, Tryz.ntmps90
        go_wp2_with fail
        go_ret3
        exact ⟨rfl, rfl⟩
    · clear hr hp hg hb hno hno' hcc
      go_enter Tryz.func90, Tryz.ntmps90
      go_wp2_with fail
      go_ret3
      exact ⟨rfl, rfl⟩
  · have e : l.length = 0 := by omega
    rw [e] at *
    clear hr hp hg hb hno hno' h0
    go_enter Tryz.func90, Tryz.ntmps90
    go_wp2_with fail
    go_ret3
    exact ⟨rfl, rfl⟩

set_option maxHeartbeats 400000 in
theorem number_ok (v : Value) (l : List Nat) (w : World) (hv : Sl w v l) (hb : Byt l) (hok : nOK l = true) :
    Calls Tryz.prog 90 #[v] w fun e w' => e = .returned (.tuple #[.int .i64 (nV l), .int .i64 ((nS l : Nat) : Int), .bool true]) ∧ w' = w := by
  obtain ⟨h0, h8, hcn, hz⟩ := (nOK_iff l).1 hok
  have HL : Hid (val (nL l) < 18446744073709551616) := nVal_lt hb h8
  obtain ⟨q, cap, g, off, rfl, hc, hm, hp, hg, hr⟩ := hv.open
  obtain rfl := hp h0
  have d0 := hr 0 _ (getD_at h0)
  have dc := hr _ _ (getD_at hcn)
  have hx0 := hb.getD 0
  have hxc := hb.getD (l.getD 0 0)
  have HV : Hid (nV l = unz (val (nL l)) ∧ nL l = (l.drop 1).take (l.getD 0 0) ∧ nS l = 1 + l.getD 0 0) := ⟨rfl, rfl, rfl⟩
  have HB : Hid (Byt ((l.drop 1).take (l.getD 0 0))) := (hb.drop 1).take _
  have HN : Hid (((l.drop 1).take (l.getD 0 0)).length = l.getD 0 0) := nL_len hcn
  rw [HV.out.1, HV.out.2.2]
  generalize hn : l.length = n at *
  generalize hcc : l.getD 0 0 = c at *
  generalize hcz : l.getD c 0 = z at *
  have e0 : ((n : Int) == 0) = false := by simp; omega
  rw [Nat.add_zero] at d0
  clear hr hp hg hok hcz hb
  by_cases hc0 : c = 0
  · subst hc0
    go_enter Tryz.func90, Tryz.ntmps90
    go_wp2_with (first
      | (refine slb_lh rfl rfl 1 1 rfl rfl rfl rfl rfl (by omega) (by omega) hv ?_; intro q' hs)
      | (go_at_call 88; refine (read_any _ _ _ hs HB.out (by rw [HN.out]; omega)).mono ?_; rintro e W2 ⟨rfl, rfl⟩; rw [← HV.out.2.1])
      | (go_at_call 101; refine (unturn_any _ _ HL.out).mono ?_; rintro e W2 ⟨rfl, rfl⟩))
    go_ret3
    exact ⟨rfl, rfl⟩
  · have hz' : z ≠ 0 := by rcases hz with h | h; exact absurd h hc0; exact h
    have hz2 : ((z : Int) == 0) = false := by simp; omega
    go_enter Tryz.func90, Tryz.ntmps90
    go_wp2_with (first
      | (refine slb_lh rfl rfl 1 (1 + c) rfl rfl rfl rfl (by omega) (by omega) (by omega) hv ?_; intro q' hs; rw [Nat.add_sub_cancel_left] at hs)
      | (go_at_call 88; refine (read_any _ _ _ hs HB.out (by rw [HN.out]; omega)).mono ?_; rintro e W2 ⟨rfl, rfl⟩; rw [← HV.out.2.1])
      | (go_at_call 101; refine (unturn_any _ _ HL.out).mono ?_; rintro e W2 ⟨rfl, rfl⟩))
    go_ret3
    exact ⟨rfl, rfl⟩

/-- A slice of one slice of bytes, just made. -/
theorem bsl1 (q : Option Addr) (n c : Nat) (w : World) : (Instr.buildSlice 56 1 #[(0, .slice q n c)]).run Tryz.prog w = .ok (.slice (some ⟨w.heap.size, 0, none⟩) 1 1) (w.alloc (.cells #[.slice q n c] 68)) := by kernel_rfl
theorem bsl2 (q : Option Addr) (n c : Nat) (q2 : Option Addr) (n2 c2 : Nat) (w : World) : (Instr.buildSlice 56 2 #[(0, .slice q n c), (1, .slice q2 n2 c2)]).run Tryz.prog w = .ok (.slice (some ⟨w.heap.size, 0, none⟩) 2 2) (w.alloc (.cells #[.slice q n c, .slice q2 n2 c2] 68)) := by kernel_rfl
theorem bsl3 (q : Option Addr) (n c : Nat) (q2 : Option Addr) (n2 c2 : Nat) (q3 : Option Addr) (n3 c3 : Nat) (w : World) : (Instr.buildSlice 56 3 #[(0, .slice q n c), (1, .slice q2 n2 c2), (2, .slice q3 n3 c3)]).run Tryz.prog w = .ok (.slice (some ⟨w.heap.size, 0, none⟩) 3 3) (w.alloc (.cells #[.slice q n c, .slice q2 n2 c2, .slice q3 n3 c3] 68)) := by kernel_rfl
section
variable {ops : Array Oper} {rest : List Oper} {o : Oper} {a : Act} {w : World} {Q : Exit → Act → World → Prop}
theorem ls_new (w : World) (vs : List Value) (ls : List (List Nat)) (n : Nat) (hn : vs.length = n) (hm : n ≤ maxLen) (hl : ls.length = n) (hE : ∀ (j : Nat) (x : Value) (l : List Nat), vs[j]? = some x → ls[j]? = some l → Sl w x l) :
    Ls (w.alloc (.cells vs.toArray 68)) (.slice (some ⟨w.heap.size, 0, none⟩) n n) vs ls := by
  have hb : Below w.heap.size w (w.alloc (.cells vs.toArray 68)) := (Below.refl _ _).alloc (Nat.le_refl _) _
  subst hn
  refine ⟨hl.symm, ⟨_, _, rfl, Nat.le_refl _, hm, fun h0 => ⟨_, 0, rfl, by simp, fun j x hx => ?_⟩⟩, fun j x l hx hl => (hE j x l hx hl).keep hb⟩
  rw [Nat.zero_add, (Blk.new w vs.toArray 68).cell j]
  simpa using hx
theorem bs_lsW {K : Act → World → Prop} (d : Option Tmp) (hd : o.dst = d) {n : Nat} {parts : Array (Nat × Operand)} (ho : o.op = .buildSlice 56 n parts) (xs : List Value) (ls : List (List Nat)) {vs : Array (Nat × Value)} (hl : parts.map (fun (i, x) => (i, a.eval x)) = vs)
    (hrun : (Instr.buildSlice 56 n vs).run Tryz.prog w = .ok (.slice (some ⟨w.heap.size, 0, none⟩) n n) (w.alloc (.cells xs.toArray 68))) (hn : xs.length = n) (hm : n ≤ maxLen) (hln : ls.length = n) (hE : ∀ (j : Nat) (x : Value) (l : List Nat), xs[j]? = some x → ls[j]? = some l → Sl w x l)
    (h : ∀ W', Ls W' (.slice (some ⟨w.heap.size, 0, none⟩) n n) xs ls → Below w.heap.size w W' → Blk W' w.heap.size xs.toArray 68 → K (a.put d (.slice (some ⟨w.heap.size, 0, none⟩) n n)) W') : o.wp Tryz.prog a w K Q := by
  subst hd
  unfold Oper.wp execOp
  simp only [ho, Sem.run_bind, hl, hrun, Result.andThen_ok]
  exact h _ (ls_new w xs ls n hn hm hln hE) ((Below.refl _ _).alloc (Nat.le_refl _) _) (Blk.new w _ _)
theorem bs_ls (hw : Region.wanted o (yielded ops a.tmps) = true) {n : Nat} {parts : Array (Nat × Operand)} (ho : o.op = .buildSlice 56 n parts) (xs : List Value) (ls : List (List Nat)) {vs : Array (Nat × Value)} (hl : parts.map (fun (i, x) => (i, a.eval x)) = vs)
    (hrun : (Instr.buildSlice 56 n vs).run Tryz.prog w = .ok (.slice (some ⟨w.heap.size, 0, none⟩) n n) (w.alloc (.cells xs.toArray 68))) (hn : xs.length = n) (hm : n ≤ maxLen) (hln : ls.length = n) (hE : ∀ (j : Nat) (x : Value) (l : List Nat), xs[j]? = some x → ls[j]? = some l → Sl w x l)
    (h : ∀ W', Ls W' (.slice (some ⟨w.heap.size, 0, none⟩) n n) xs ls → Below w.heap.size w W' → Blk W' w.heap.size xs.toArray 68 → wpList Tryz.prog ops Q rest (a.put o.dst (.slice (some ⟨w.heap.size, 0, none⟩) n n)) W') : wpList Tryz.prog ops Q (o :: rest) a w := by
  unfold wpList
  rw [if_pos hw]
  left
  exact bs_lsW o.dst rfl ho xs ls hl hrun hn hm hln hE h
end
theorem each1 {w : World} {v : Value} {l : List Nat} (h : Sl w v l) : ∀ (j : Nat) (x : Value) (m : List Nat), [v][j]? = some x → [l][j]? = some m → Sl w x m := by
  intro j x m hx hm
  match j, hx, hm with
  | 0, hx, hm => simp at hx hm; subst hx; subst hm; exact h
theorem each2 {w : World} {v v2 : Value} {l l2 : List Nat} (h : Sl w v l) (h2 : Sl w v2 l2) : ∀ (j : Nat) (x : Value) (m : List Nat), [v, v2][j]? = some x → [l, l2][j]? = some m → Sl w x m := by
  intro j x m hx hm
  match j, hx, hm with
  | 0, hx, hm => simp at hx hm; subst hx; subst hm; exact h
  | 1, hx, hm => simp at hx hm; subst hx; subst hm; exact h2
theorem each3 {w : World} {v v2 v3 : Value} {l l2 l3 : List Nat} (h : Sl w v l) (h2 : Sl w v2 l2) (h3 : Sl w v3 l3) : ∀ (j : Nat) (x : Value) (m : List Nat), [v, v2, v3][j]? = some x → [l, l2, l3][j]? = some m → Sl w x m := by
  intro j x m hx hm
  match j, hx, hm with
  | 0, hx, hm => simp at hx hm; subst hx; subst hm; exact h
  | 1, hx, hm => simp at hx hm; subst hx; subst hm; exact h2
  | 2, hx, hm => simp at hx hm; subst hx; subst hm; exact h3

set_option maxHeartbeats 400000 in
theorem inside_no (v : Value) (l : List Nat) (w : World) (hv : Sl w v l) (hb : Byt l) (hno : insOK l = false) :
    Calls Tryz.prog 63 #[v] w fun e w' => e = .returned (.tuple #[.slice none 0 0, .bool false]) ∧ Below w.heap.size w w' := by
  have hno' : ¬ (insOK l = true) := by simp [hno]
  rw [insOK_iff] at hno'
  obtain ⟨q, cap, g, off, rfl, hc, hm, hp, hg, hr⟩ := hv.open
  by_cases h0 : 8 ≤ l.length
  · have hb4 := hb.take 4
    have hb8 := (hb.drop 4).take 4
    obtain ⟨q1, e1⟩ := sliced_form q 0 4 cap
    obtain ⟨q2, e2⟩ := sliced_form q 4 8 cap
    obtain ⟨q3, e3⟩ := sliced_form q 8 l.length cap
    have s1 := hv.sub (Nat.zero_le 4) (by omega) (Nat.le_refl _) (by omega) e1.symm
    have s2 := hv.sub (i := 4) (j := 8) (by omega) (by omega) (Nat.le_refl _) (by omega) e2.symm
    have s3 := hv.sub h0 (Nat.le_refl _) (Nat.le_refl _) (by omega) e3.symm
    rw [List.take_of_length_le (by rw [List.length_drop]; omega)] at s3
    have HI : Hid (insB l = (l.drop 8).take (val (l.take 4))) := rfl
    have HB3 : Hid (Byt (l.drop 8)) := hb.drop 8
    have hl4 := val_lt _ hb4
    have hl8 := val_lt _ hb8
    have hle4 : (l.take 4).length = 4 := by rw [List.length_take]; omega
    have hle8 : ((l.drop 4).take 4).length = 4 := by rw [List.length_take, List.length_drop]; omega
    rw [hle4] at hl4
    rw [hle8] at hl8
    have HR1 : Hid (∀ W, Below w.heap.size w W → Calls Tryz.prog 88 #[.slice q1 (4 - 0) (cap - 0)] W fun e w' => e = .returned (.int .u64 ((val (l.take 4) : Nat) : Int)) ∧ w' = W) := fun W hW => read_any _ _ W (s1.keep hW) hb4 (by rw [hle4]; omega)
    have HR2 : Hid (∀ W, Below w.heap.size w W → Calls Tryz.prog 88 #[.slice q2 (8 - 4) (cap - 4)] W fun e w' => e = .returned (.int .u64 ((val ((l.drop 4).take 4) : Nat) : Int)) ∧ w' = W) := fun W hW => read_any _ _ W (s2.keep hW) hb8 (by rw [hle8]; omega)
    rw [HI.out] at hno'
    generalize hL : l.drop 8 = L at *
    have hLl : L.length = l.length - 8 := by rw [← hL, List.length_drop]
    generalize hn : l.length = n at *
    generalize hv4 : val (l.take 4) = c at *
    generalize hv8 : val ((l.drop 4).take 4) = s at *
    clear hp hg hr hb hno s1 s2 hle4 hle8 hb4 hb8 hL hv4 hv8 HI
    go_enter Tryz.func63, Tryz.ntmps63
    go_upto_region 3 with fail
    refine wp_region_below (by kernel_rfl) (by kernel_rfl) ?_
    have HZ := cls_some w
    go_big_quiet_step (fail)
    refine quiet_val rfl (.slice q1 (4 - 0) (cap - 0)) (fun w' hC => by rw [slb_h_run (j := 4) rfl rfl rfl rfl (by omega), e1]) ?_
    go_frame
    go_big_quiet_step (first | (go_at_call 88; exact calls_same (HR1.out _ (Cls.prop _))))
    go_big_quiet_step (fail)
    refine quiet_val rfl (.slice q2 (8 - 4) (cap - 4)) (fun w' hC => by rw [slb_lh_run (i := 4) (j := 8) rfl rfl rfl rfl rfl rfl (by omega) (by omega), e2]) ?_
    go_frame
    go_big_quiet_step (first | (go_at_call 88; exact calls_same (HR2.out _ (Cls.prop _))))
    go_big_quiet_step (fail)
    refine quiet_val rfl (.slice q3 (n - 8) (cap - 8)) (fun w' hC => by rw [slb_l_run (i := 8) rfl rfl rfl rfl h0 hc, e3]) ?_
    go_frame
    repeat (go_big_quiet_step (fail))
    refine wpQuiet_nil ?_
    rintro _ ⟨x, rfl⟩
    obtain ⟨W, hb⟩ := x
    dsimp only
    have s3' := s3.keep hb
    clear s3 HZ HR1 HR2 e1 e2 e3
    by_cases hc1 : c ≤ 16376
    · by_cases hc2 : c ≤ n - 8
      · have hs : sm (L.take c) ≠ s := fun h => hno' ⟨h0, hc1, hc2, h⟩
        have hs2 := sm_lt (L.take c)
        have hsn : ((sm (L.take c) : Int) != (s : Int)) = true := by simp; omega
        clear hno'
        have HBc : Hid (∀ l ∈ [L.take c], Byt l) := by intro l hl; simp at hl; subst hl; exact HB3.out.take _
        have HF : Hid ([L.take c].flatten = L.take c) := by simp [Hid]
        go_wp2_with (first
          | (refine slb_h rfl rfl c rfl rfl rfl (by omega) s3' ?_; intro q4 s4)
          | (refine bs_ls rfl rfl _ [L.take c] (by simp only [List.map_toArray, List.map_cons, List.map_nil]; rfl) (bsl1 _ _ _ _) rfl (by decide) rfl (each1 s4) ?_; intro W2 hls b2 hbk2)
          | (go_at_call 77; refine (sum_any _ _ _ _ hls HBc.out).mono ?_; rintro e W3 ⟨rfl, rfl⟩; rw [HF.out]))
        go_ret2
        exact ⟨rfl, ab_trans hb b2⟩
      · have hc2' : (n : Int) - 8 < c := by omega
        clear hno'
        go_wp2_with fail
        go_ret2
        exact ⟨rfl, hb⟩
    · clear hno'
      go_wp2_with fail
      go_ret2
      exact ⟨rfl, hb⟩
  · have h8 : (l.length : Int) < 8 := by omega
    generalize hn : l.length = n at *
    clear hr hp hg hb hno hno'
    go_enter Tryz.func63, Tryz.ntmps63
    go_wp2_with fail
    go_ret2
    exact ⟨rfl, Below.refl _ _⟩

set_option maxHeartbeats 400000 in
theorem inside_ok (v : Value) (l : List Nat) (w : World) (hv : Sl w v l) (hb : Byt l) (hok : insOK l = true) :
    Calls Tryz.prog 63 #[v] w fun e w' => ∃ q' cap', e = .returned (.tuple #[.slice q' (insB l).length cap', .bool true]) ∧ Sl w' (.slice q' (insB l).length cap') (insB l) ∧ Below w.heap.size w w' := by
  obtain ⟨h0, hc1, hc2, hs⟩ := (insOK_iff l).1 hok
  obtain ⟨q, cap, g, off, rfl, hc, hm, hp, hg, hr⟩ := hv.open
  have hb4 := hb.take 4
  have hb8 := (hb.drop 4).take 4
  obtain ⟨q1, e1⟩ := sliced_form q 0 4 cap
  obtain ⟨q2, e2⟩ := sliced_form q 4 8 cap
  obtain ⟨q3, e3⟩ := sliced_form q 8 l.length cap
  have s1 := hv.sub (Nat.zero_le 4) (by omega) (Nat.le_refl _) (by omega) e1.symm
  have s2 := hv.sub (i := 4) (j := 8) (by omega) (by omega) (Nat.le_refl _) (by omega) e2.symm
  have s3 := hv.sub h0 (Nat.le_refl _) (Nat.le_refl _) (by omega) e3.symm
  rw [List.take_of_length_le (by rw [List.length_drop]; omega)] at s3
  have HI : Hid (insB l = (l.drop 8).take (val (l.take 4))) := rfl
  have HB3 : Hid (Byt (l.drop 8)) := hb.drop 8
  have hl4 := val_lt _ hb4
  have hl8 := val_lt _ hb8
  have hle4 : (l.take 4).length = 4 := by rw [List.length_take]; omega
  have hle8 : ((l.drop 4).take 4).length = 4 := by rw [List.length_take, List.length_drop]; omega
  rw [hle4] at hl4
  rw [hle8] at hl8
  have HR1 : Hid (∀ W, Below w.heap.size w W → Calls Tryz.prog 88 #[.slice q1 (4 - 0) (cap - 0)] W fun e w' => e = .returned (.int .u64 ((val (l.take 4) : Nat) : Int)) ∧ w' = W) := fun W hW => read_any _ _ W (s1.keep hW) hb4 (by rw [hle4]; omega)
  have HR2 : Hid (∀ W, Below w.heap.size w W → Calls Tryz.prog 88 #[.slice q2 (8 - 4) (cap - 4)] W fun e w' => e = .returned (.int .u64 ((val ((l.drop 4).take 4) : Nat) : Int)) ∧ w' = W) := fun W hW => read_any _ _ W (s2.keep hW) hb8 (by rw [hle8]; omega)
  rw [HI.out] at hs ⊢
  generalize hL : l.drop 8 = L at *
  have hLl : L.length = l.length - 8 := by rw [← hL, List.length_drop]
  generalize hn : l.length = n at *
  generalize hv4 : val (l.take 4) = c at *
  generalize hv8 : val ((l.drop 4).take 4) = s at *
  clear hp hg hr hb hok s1 s2 hle4 hle8 hb4 hb8 hL hv4 hv8 HI
  go_enter Tryz.func63, Tryz.ntmps63
  go_upto_region 3 with fail
  refine wp_region_below (by kernel_rfl) (by kernel_rfl) ?_
  have HZ := cls_some w
  go_big_quiet_step (fail)
  refine quiet_val rfl (.slice q1 (4 - 0) (cap - 0)) (fun w' hC => by rw [slb_h_run (j := 4) rfl rfl rfl rfl (by omega), e1]) ?_
  go_frame
  go_big_quiet_step (first | (go_at_call 88; exact calls_same (HR1.out _ (Cls.prop _))))
  go_big_quiet_step (fail)
  refine quiet_val rfl (.slice q2 (8 - 4) (cap - 4)) (fun w' hC => by rw [slb_lh_run (i := 4) (j := 8) rfl rfl rfl rfl rfl rfl (by omega) (by omega), e2]) ?_
  go_frame
  go_big_quiet_step (first | (go_at_call 88; exact calls_same (HR2.out _ (Cls.prop _))))
  go_big_quiet_step (fail)
  refine quiet_val rfl (.slice q3 (n - 8) (cap - 8)) (fun w' hC => by rw [slb_l_run (i := 8) rfl rfl rfl rfl h0 hc, e3]) ?_
  go_frame
  repeat (go_big_quiet_step (fail))
  refine wpQuiet_nil ?_
  rintro _ ⟨x, rfl⟩
  obtain ⟨W, hb⟩ := x
  dsimp only
  have s3' := s3.keep hb
  clear s3 HZ HR1 HR2 e1 e2 e3
  have hs2 := sm_lt (L.take c)
  have hsn : ((s : Int) != (s : Int)) = false := by simp
  have HBc : Hid (∀ l ∈ [L.take c], Byt l) := by intro l hl; simp at hl; subst hl; exact HB3.out.take _
  have HF : Hid ([L.take c].flatten = L.take c) := by simp [Hid]
  have HL : Hid ((L.take c).length = c) := by show _ = _; rw [List.length_take]; omega
  go_wp2_with (first
    | (refine slb_h rfl rfl c rfl rfl rfl (by omega) s3' ?_; intro q4 s4)
    | (refine bs_ls rfl rfl _ [L.take c] (by simp only [List.map_toArray, List.map_cons, List.map_nil]; rfl) (bsl1 _ _ _ _) rfl (by decide) rfl (each1 s4) ?_; intro W2 hls b2 hbk2)
    | (go_at_call 77; refine (sum_any _ _ _ _ hls HBc.out).mono ?_; rintro e W3 ⟨rfl, rfl⟩; rw [HF.out, hs]))
  go_ret2
  rw [HL.out]
  exact ⟨_, _, rfl, s4.keep b2, ab_trans hb b2⟩
end Go.Proofs.YthmolbcnbcajdaaGreat
namespace Go.Proofs.YthmolbcnbcajdaaGreat
set_option maxRecDepth 100000
open Go.RowKit
set_option linter.unusedVariables false

/-- A slice of bytes of the call's own. -/
def Ow (W : World) (base : Nat) (v : Value) (l : List Nat) : Prop := W.ownsRow base 5 1 v l.length (bys l)
theorem ow_of {W : World} {base n : Nat} {v : Value} {l : List Nat} (h : W.ownsRow base 5 1 v n (bys l)) : Ow W base v l := by
  have := (own_sl h).1
  unfold Ow
  rw [this]
  exact h
theorem Ow.sl {W : World} {base : Nat} {v : Value} {l : List Nat} (h : Ow W base v l) : Sl W v l := (own_sl h).2
theorem Ow.keep {W W' : World} {base : Nat} {v : Value} {l : List Nat} (h : Ow W base v l) (hb : Below W.heap.size W W') : Ow W' base v l := own_keep h hb
theorem Ow.less {W : World} {base base' : Nat} {v : Value} {l : List Nat} (h : Ow W base v l) (hb : base' ≤ base) : Ow W base' v l := own_less h hb
/-- A slice of numbers, in memory that W has. -/
def Is (W : World) (v : Value) (l : List Int) : Prop := ∃ q cap g off, v = .slice q l.length cap ∧ l.length ≤ cap ∧ cap ≤ 9223372036854775807 ∧ (0 < l.length → q = some ⟨g, off, none⟩) ∧ (0 < l.length → g < W.heap.size) ∧ IRow W g off l
theorem Is.keep {W W' : World} {v : Value} {l : List Int} (h : Is W v l) (hb : Below W.heap.size W W') : Is W' v l := by
  obtain ⟨q, cap, g, off, rfl, h1, h2, h3, h4, h5⟩ := h
  exact ⟨q, cap, g, off, rfl, h1, h2, h3, fun h0 => Nat.lt_of_lt_of_le (h4 h0) hb.size, irow_keep h5 h4 hb⟩
theorem own_is {W : World} {base n : Nat} {v : Value} {l : List Int} (h : W.ownsRow base 3 1 v n (ints l)) : Is W v l := by
  obtain ⟨h1, q, g, cap, rfl, hp, hg, _, _, hc, hm, hr, _⟩ := own_open h (by omega)
  rw [ints_len, Nat.mul_one] at h1
  subst h1
  exact ⟨q, cap, g, 0, rfl, hc, hm, hp, hg, fun j x hx => by rw [Nat.zero_add]; exact hr j _ (by rw [ints_at, hx]; rfl)⟩
/-- All fit. -/
def In64 (l : List Int) : Prop := ∀ x ∈ l, -9223372036854775808 ≤ x ∧ x ≤ 9223372036854775807
theorem numsB_take (l : List Int) (k : Nat) (x : Int) (hx : l[k]? = some x) : numsB (l.take (k + 1)) = numsB (l.take k) ++ numB x := by
  rw [List.take_add_one, hx, Option.toList_some, numsB_snoc]

set_option maxHeartbeats 400000 in
theorem put_any (v : Value) (l : List Nat) (v2 : Value) (ns : List Int) (w : World) (hv : Sl w v l) (hl : l.length ≤ 100000) (hi : Is w v2 ns) (hn4 : ns.length ≤ 4000) (h64 : In64 ns) :
    Calls Tryz.prog 56 #[v, v2] w fun e w' => ∃ v', e = .returned v' ∧ Ow w' w.heap.size v' (l ++ numsB ns) ∧ Below w.heap.size w w' := by
  obtain ⟨q, cap, g, off, rfl, hc, hm, hp, hg, hr⟩ := hi
  generalize hn : ns.length = n at *
  go_enter Tryz.func56, Tryz.ntmps56
  go_upto_region 2 with (go_at_call 62; refine (clone_any _ l _ hv (by omega)).mono ?_; rintro e W1 ⟨v1, rfl, hown, hb⟩)
  go_wp2_with fail
  go_loopw [5, 14] (fun x i wr => ∃ k : Nat, k ≤ n ∧ i = .int .i64 (k : Int) ∧ Ow wr w.heap.size x (l ++ numsB (ns.take k)) ∧ Below w.heap.size w wr) (fun _ i _ => n - (intOf i).toNat)
  case atStart => exact ⟨0, by omega, rfl, ow_of (n := l.length) (by simpa [numsB] using hown), hb⟩
  case round =>
    clear hown hb hv W1
    obtain ⟨k, hk, rfl, hown, hb⟩ := hrel
    by_cases c : k = n
    · subst c
      rw [List.take_of_length_le (by omega)] at hown
      clear hr hp hg h64
      go_wp2_with fail
      go_ret
      exact ⟨_, rfl, hown, hb⟩
    · obtain ⟨x, hx⟩ : ∃ x, ns[k]? = some x := ⟨ns[k], List.getElem?_eq_getElem (by omega)⟩
      obtain rfl := hp (by omega)
      have hx64 := h64 x (List.mem_of_getElem? hx)
      have d := (hb.cell (p := ⟨g, off + k, none⟩) (hg (by omega))).trans (hr k x hx)
      have hki : (k : Int) < (n : Int) := by omega
      have hkn : k < n := by omega
      have hz := zig_lt x hx64.1 hx64.2
      have HB : Hid ((Lib.bitLen (zig x) + 7) / 8 = (leB 8 (zig x)).length) := bitLen_len _ hz
      have HB2 : Hid (Lib.bitLen (zig x) ≤ 64) := by
        have h1 := leB_le 8 (zig x)
        rw [← HB.out] at h1
        show _ ≤ _
        generalize Lib.bitLen (zig x) = B at *
        omega
      have hle := leB_le 8 (zig x)
      have HT : Hid (numsB (ns.take (k + 1)) = numsB (ns.take k) ++ ((leB 8 (zig x)).length :: spl (zig x) (leB 8 (zig x)).length)) := by
        show _ = _
        rw [← leB_spl]
        exact numsB_take ns k x hx
      have HL : Hid ((l ++ numsB (ns.take k)).length ≤ 200000) := by
        have := numsB_len (ns.take k)
        rw [List.length_take] at this
        show _ ≤ _
        rw [List.length_append]
        omega
      clear hr hp hg h64 hx
      generalize hZ : zig x = Z at *
      generalize hBL : Lib.bitLen Z = B at *
      generalize hS : (leB 8 Z).length = s at *
      have hq := HB.out
      have hB2 := HB2.out
      have eq1 : ((B : Int) + 7).tdiv 8 = ((s : Nat) : Int) := by
        rw [Int.tdiv_eq_ediv_of_nonneg (by omega)]
        omega
      go_upto_region 6 with (go_at_call 83; refine (turn_any _ _ hx64.1 hx64.2).mono ?_; rintro e W2 ⟨rfl, rfl⟩; rw [hZ])
      go_upto_region 7 with (go_at_call 84; refine (floorBits.len64_any _ _ (by omega) (by omega)).mono ?_; rintro e W2 ⟨rfl, rfl⟩; rw [Int.toNat_natCast, hBL])
      go_wp2_with (first
        | (refine bs_by rfl rfl [s] (vs := #[(0, .int .u8 ((s : Nat) : Int))]) (by simp only [List.map_toArray, List.map_cons, List.map_nil]; rfl) (bsb1 _ _) rfl (by decide) ?_; intro W3 hN b3 z3)
        | (at_builtin; refine app_by w rfl rfl rfl (hown.keep b3) rfl (own_sl hN).2 rfl (by have := HL.out; show _ + 1 ≤ _; omega) (ab_trans hb b3) ?_; intro v4 W4 hown4 hnil4 hb4 hgr4 hat4)
        | (go_at_call 76; refine (spell_any w _ _ _ _ _ _ hb4 hown4 (by have := HL.out; show _ + 1 ≤ _; omega) hle hz).mono ?_; rintro e W5 ⟨v5, rfl, hown5, hb5⟩))
      refine ⟨⟨k + 1, by omega, rfl, ?_, hb5⟩, by simp only [intOf]; omega⟩
      rw [HT.out]
      have := ow_of hown5
      simpa using this

/-- An error of the program. -/
abbrev Err (n : Int) : Value := .iface 38 (.int .i64 n)
theorem nS_le {l : List Nat} (h : nOK l = true) : nS l ≤ l.length ∧ nS l ≤ 9 ∧ 1 ≤ nS l := by
  have := (nOK_iff l).1 h
  unfold nS
  omega
/-- The lengths of lists, one behind the other. -/
theorem flat_len (ls : List (List Nat)) (k : Nat) (l : List Nat) (h : ls[k]? = some l) : (ls.take (k + 1)).flatten.length = (ls.take k).flatten.length + l.length := by
  rw [flat_take ls k l h, List.length_append]
theorem flat_mono (ls : List (List Nat)) (k : Nat) : (ls.take k).flatten.length ≤ ls.flatten.length := by
  have : ls.flatten = (ls.take k).flatten ++ (ls.drop k).flatten := by rw [← List.flatten_append, List.take_append_drop]
  rw [this, List.length_append]
  omega
theorem flat_byt {ls : List (List Nat)} (h : ∀ l ∈ ls, Byt l) : Byt ls.flatten := by
  intro x hx
  obtain ⟨l, hl, h1⟩ := List.mem_flatten.1 hx
  exact h l hl x h1
set_option maxHeartbeats 400000 in
theorem wrap_noL (v : Value) (vs : List Value) (ls : List (List Nat)) (w : World) (hv : Ls w v vs ls) (hs : ∀ l ∈ ls, l.length ≤ 200000000000000) (hno : 16376 < ls.flatten.length) :
    Calls Tryz.prog 53 #[v] w fun e w' => e = .returned (.tuple #[.slice none 0 0, Err 7]) ∧ Below w.heap.size w w' := by
  obtain ⟨q, cap, g, off, rfl, hc, hm, hp, hg, hr⟩ := hv.open
  obtain ⟨hlen, -, hE⟩ := hv
  generalize hn : ls.length = n at *
  go_enter Tryz.func53, Tryz.ntmps53
  go_wp2_with fail
  go_loopw [4, 12] (fun s i wr => ∃ k : Nat, k ≤ n ∧ i = .int .i64 (k : Int) ∧ s = .int .i64 ((8 + (ls.take k).flatten.length : Nat) : Int) ∧ (ls.take k).flatten.length ≤ 16376 ∧ wr = w) (fun _ i _ => n - (intOf i).toNat)
  case atStart => exact ⟨0, by omega, rfl, rfl, by simp, rfl⟩
  case round =>
    obtain ⟨k, hk, rfl, rfl, hsz, rfl⟩ := hrel
    by_cases c : k = n
    · subst c
      rw [List.take_of_length_le (by omega)] at hsz
      omega
    · obtain ⟨x, hx⟩ : ∃ x, vs[k]? = some x := ⟨vs[k], List.getElem?_eq_getElem (by omega)⟩
      obtain ⟨l, hl⟩ : ∃ l, ls[k]? = some l := ⟨ls[k], List.getElem?_eq_getElem (by omega)⟩
      obtain rfl := hp (by omega)
      have d := hr k x hx
      obtain ⟨q2, cap2, g2, off2, rfl, hc2, hm2, hp2, hg2, hr2⟩ := (hE k x l hx hl).open
      have hl5 := hs l (List.mem_of_getElem? hl)
      have hki : (k : Int) < (n : Int) := by omega
      have hkn : k < n := by omega
      have HF := flat_len ls k l hl
      generalize hA : (ls.take k).flatten.length = A at *
      generalize hn2 : l.length = n2 at *
      clear hr hp hg hx hE hl hs hr2 hp2 hg2
      by_cases hbig : 16376 < A + n2
      · go_wp2_with fail
        go_ret2
        exact ⟨rfl, Below.refl _ _⟩
      · go_wp2_with fail
        exact ⟨⟨k + 1, by omega, rfl, by rw [HF]; congr 1; omega, by omega, trivial⟩, by simp only [intOf]; omega⟩
theorem wrap_no (v : Value) (vs : List Value) (ls : List (List Nat)) (w : World) (hv : Ls w v vs ls) (hs : ∀ l ∈ ls, l.length ≤ 100000) (hno : 16376 < ls.flatten.length) :
    Calls Tryz.prog 53 #[v] w fun e w' => e = .returned (.tuple #[.slice none 0 0, Err 7]) ∧ Below w.heap.size w w' :=
  wrap_noL v vs ls w hv (fun l hl => Nat.le_trans (hs l hl) (by decide)) hno
theorem spell4 (A : World) (v : Value) (l : List Nat) (u : Nat) (w : World) (hA : Below A.heap.size A w) (hown : Ow w A.heap.size v l) (hn : l.length ≤ 500000) (hu : u < 18446744073709551616) :
    Calls Tryz.prog 76 #[v, .int .u64 ((u : Nat) : Int), .int .i64 4] w fun e w' => ∃ v', e = .returned v' ∧ Ow w' A.heap.size v' (l ++ spl u 4) ∧ Below A.heap.size A w' :=
  (spell_any A v l l.length u 4 w hA hown hn (by omega) hu).mono fun e w' ⟨v', h1, h2, h3⟩ => ⟨v', h1, ow_of h2, h3⟩
theorem ow_empty {W : World} {base : Nat} {v : Value} (h : W.ownsRow base 5 1 v 0 []) : Ow W base v [] := h
set_option maxHeartbeats 1000000 in
theorem wrap_ok (v : Value) (vs : List Value) (ls : List (List Nat)) (w : World) (hv : Ls w v vs ls) (hb : ∀ l ∈ ls, Byt l) (hok : ls.flatten.length ≤ 16376) :
    Calls Tryz.prog 53 #[v] w fun e w' => ∃ v', e = .returned (.tuple #[v', .nilIface]) ∧ Ow w' w.heap.size v' (frm ls.flatten) ∧ v' ≠ .slice none 0 0 ∧ Below w.heap.size w w' := by
  have hv0 := hv
  obtain ⟨q, cap, g, off, rfl, hc, hm, hp, hg, hr⟩ := hv.open
  obtain ⟨hlen, -, hE⟩ := hv
  generalize hn : ls.length = n at *
  go_enter Tryz.func53, Tryz.ntmps53
  go_wp2_with fail
  go_loopw [4, 12] (fun s i wr => ∃ k : Nat, k ≤ n ∧ i = .int .i64 (k : Int) ∧ s = .int .i64 ((8 + (ls.take k).flatten.length : Nat) : Int) ∧ wr = w) (fun _ i _ => n - (intOf i).toNat)
  case atStart => exact ⟨0, by omega, rfl, rfl, rfl⟩
  case round =>
    obtain ⟨k, hk, rfl, rfl, rfl⟩ := hrel
    by_cases c : k = n
    · subst c
      rw [List.take_of_length_le (by omega)]
      have HM : Hid (∀ k, (ls.take k).flatten.length ≤ ls.flatten.length) := flat_mono ls
      have HF : Hid (frm ls.flatten = spl ls.flatten.length 4 ++ spl (sm ls.flatten) 4 ++ ls.flatten) := rfl
      have hsm := sm_lt ls.flatten
      generalize hT : ls.flatten.length = T at *
      go_upto_region 10 with (refine mk_own wr rfl rfl Tryz.underlying68 infoByte rfl rfl rfl (by omega) (by unfold maxLen; omega) (Below.refl _ _) ?_; intro v1 W1 hown1 hv1 hb1 hb1'; clear hb1')
      have e8 : (8 : Int) + (T : Int) - 8 = ((T : Nat) : Int) := by omega
      have HO1 := ow_empty hown1
      go_upto_region 11 with (go_at_call 76; refine (spell4 wr _ [] T _ hb1 HO1 (by simp) (by omega)).mono ?_; rintro e W2 ⟨v2, rfl, hown2, hb2⟩)
      have HO2 : Ow W2 wr.heap.size v2 (spl T 4) := hown2
      have hls := hv0.keep hb2
      go_upto_region 12 with (first
        | (go_at_call 77; refine (sum_any _ _ _ _ hls hb).mono ?_; rintro e W3 ⟨rfl, rfl⟩)
        | (go_at_call 76; refine (spell4 wr _ _ _ _ hb2 HO2 (by rw [spl_len]; omega) (by omega)).mono ?_; rintro e W4 ⟨v4, rfl, HO4, hb4⟩))
      clear hown1 hv1 hb1 HO1 hown2 hb2 HO2 hls
      go_wp2_with fail
      go_loopw [7, 38] (fun x i wr' => ∃ j : Nat, j ≤ k ∧ i = .int .i64 (j : Int) ∧ Ow wr' wr.heap.size x (spl T 4 ++ spl (sm ls.flatten) 4 ++ (ls.take j).flatten) ∧ Below wr.heap.size wr wr') (fun _ i _ => k - (intOf i).toNat)
      case atStart => exact ⟨0, by omega, rfl, by simpa using HO4, hb4⟩
      case round =>
        clear HO4 hb4
        obtain ⟨j, hj, rfl, HO, hbj⟩ := hrel
        by_cases c2 : j = k
        · subst c2
          rw [List.take_of_length_le (by omega), ← HF.out] at HO
          clear hp hg hr hb hE hv0
          go_wp2_with fail
          go_ret2
          refine ⟨_, rfl, HO, ?_, hbj⟩
          intro e
          subst e
          have h1 := HO.sl.len
          rw [frm_len] at h1
          omega
        · obtain ⟨x, hx⟩ : ∃ x, vs[j]? = some x := ⟨vs[j], List.getElem?_eq_getElem (by omega)⟩
          obtain ⟨l, hl⟩ : ∃ l, ls[j]? = some l := ⟨ls[j], List.getElem?_eq_getElem (by omega)⟩
          obtain rfl := hp (by omega)
          have d := (hbj.cell (p := ⟨g, off + j, none⟩) (hg (by omega))).trans (hr j x hx)
          have hsx := (hE j x l hx hl).keep hbj
          obtain ⟨q2, cap2, g2, off2, rfl, hc2, hm2, hp2, hg2, hr2⟩ := hsx.open
          have hki : (j : Int) < (k : Int) := by omega
          have hkn : j < k := by omega
          have HFL := flat_len ls j l hl
          have HM1 := HM.out (j + 1)
          have HFT : Hid ((ls.take (j + 1)).flatten = (ls.take j).flatten ++ l) := flat_take ls j l hl
          have HLn : Hid ((spl T 4 ++ spl (sm ls.flatten) 4 ++ (ls.take j).flatten).length + l.length ≤ 1000000) := by
            show _ ≤ _
            rw [List.length_append, List.length_append, spl_len, spl_len]
            omega
          clear hr hp hg hx hE hl hb hv0 hr2 hp2 hg2
          generalize hn2 : l.length = n2 at *
          go_wp2_with (first
            | (at_builtin; refine app_by _ rfl rfl rfl HO rfl hsx hn2 HLn.out hbj ?_; intro v5 W5 hown5 hnil5 hb5 hgr5 hat5))
          refine ⟨⟨j + 1, by omega, rfl, ?_, hb5⟩, by simp only [intOf]; omega⟩
          rw [HFT.out, ← List.append_assoc]
          exact ow_of hown5
    · obtain ⟨x, hx⟩ : ∃ x, vs[k]? = some x := ⟨vs[k], List.getElem?_eq_getElem (by omega)⟩
      obtain ⟨l, hl⟩ : ∃ l, ls[k]? = some l := ⟨ls[k], List.getElem?_eq_getElem (by omega)⟩
      obtain rfl := hp (by omega)
      have d := hr k x hx
      obtain ⟨q2, cap2, g2, off2, rfl, hc2, hm2, hp2, hg2, hr2⟩ := (hE k x l hx hl).open
      have hki : (k : Int) < (n : Int) := by omega
      have hkn : k < n := by omega
      have HF := flat_len ls k l hl
      have HM := flat_mono ls (k + 1)
      generalize hA : (ls.take k).flatten.length = A at *
      generalize hA2 : (ls.take (k + 1)).flatten.length = A2 at *
      generalize hn2 : l.length = n2 at *
      have hbig : ¬ 16376 < A + n2 := by omega
      clear hr hp hg hx hE hl hb hv0 hr2 hp2 hg2
      go_wp2_with fail
      exact ⟨⟨k + 1, by omega, rfl, by rw [hA2]; congr 1; omega, trivial⟩, by simp only [intOf]; omega⟩
/-- A constant text turned into bytes: the new row gets a mark behind its last cell. -/
theorem cv_t {ops : Array Oper} {rest : List Oper} {o : Oper} {a : Act} {w : World} {Q : Exit → Act → World → Prop} (hw : Region.wanted o (yielded ops a.tmps) = true) {x : Operand} (ho : o.op = .convert 68 68 x)
    {base g n c : Nat} {m : List Nat} (hx : a.eval x = .slice (some ⟨g, 0, none⟩) n c) (hown : w.ownsRow base 5 1 (.slice (some ⟨g, 0, none⟩) n c) n (bys m))
    (h : ∀ W', Sl W' (.slice (some ⟨g, 0, none⟩) n c) m → Chg g w W' → wpList Tryz.prog ops Q rest (a.put o.dst (.slice (some ⟨g, 0, none⟩) n c)) W') : wpList Tryz.prog ops Q (o :: rest) a w := by
  obtain ⟨hl, hs⟩ := own_sl hown
  rcases hown.2 with ⟨h2, _⟩ | ⟨g', cap', cur, e, hb, hg, hnc, hcm, hcs, ht⟩
  · cases h2
  · cases e
    have hsh : w.shape? g = some (5, cur.size) := by unfold World.shape?; rw [hg]
    have hrun : (convert 68 68 (.slice (some ⟨g, 0, none⟩) n c)).run Tryz.prog w = .ok (.slice (some ⟨g, 0, none⟩) n c) (w.freeze ⟨g, cur.size, none⟩ 1) := by
      simp [convert, run_underlying Tryz.underlying68, run_underlying Tryz.underlying5, markStringish, hsh]
    have hf : (w.freeze ⟨g, cur.size, none⟩ 1).heap[g]? = some (.cells cur 5 (cur.size, cur.size + 1)) := by
      unfold World.freeze
      rw [if_neg (by decide)]
      simp [Array.getElem?_modify, hg]
    have hchg : Chg g w (w.freeze ⟨g, cur.size, none⟩ 1) := by
      unfold World.freeze
      rw [if_neg (by decide)]
      exact ⟨rfl, rfl, rfl, by simp, fun k hk => by simp [Array.getElem?_modify, Ne.symm hk]⟩
    have hsl : Sl (w.freeze ⟨g, cur.size, none⟩ 1) (.slice (some ⟨g, 0, none⟩) n c) m := by
      obtain ⟨q, cap, e, h1, h2, h3⟩ := hs
      refine ⟨q, cap, e, h1, h2, fun h0 => ?_⟩
      obtain ⟨g2, off, rfl, hg2, hr⟩ := h3 h0
      cases e
      refine ⟨g, 0, rfl, by rw [hchg.size]; exact hg2, fun j y hy => ?_⟩
      rw [cell_of_row _ g (0 + j) cur 5 _ hf, ← hr j y hy, cell_of_row w g (0 + j) cur 5 _ hg]
    unfold wpList
    rw [if_pos hw]
    left
    unfold Oper.wp execOp
    simp only [ho, Sem.run_bind, hx, hrun, Result.andThen_ok]
    exact h _ hsl hchg
end Go.Proofs.YthmolbcnbcajdaaGreat
namespace Go.Proofs.YthmolbcnbcajdaaGreat
set_option maxRecDepth 100000
open Go.RowKit
set_option linter.unusedVariables false

theorem Ow.lt {W : World} {base : Nat} {v : Value} {l : List Nat} (h : Ow W base v l) : ∀ k, v.ownBlock = some k → base ≤ k ∧ k < W.heap.size := World.ownsRow.lt h
theorem Ow.kept {W W' : World} {base : Nat} {v x : Value} {l : List Nat} (h : Ow W base v l) (hg : W.grownBy W' x.ownBlock) (hs : Sep v x) : Ow W' base v l := World.ownsRow.kept h hg hs.row
/-- Slices of bytes of the call's own, no two of one block. -/
structure Bag (W : World) (base : Nat) (vs : List Value) (ls : List (List Nat)) : Prop where
  len : vs.length = ls.length
  own : ∀ (j : Nat) (v : Value) (l : List Nat), vs[j]? = some v → ls[j]? = some l → Ow W base v l
  sep : ∀ (i j : Nat) (v u : Value), i ≠ j → vs[i]? = some v → vs[j]? = some u → Sep v u
theorem Bag.lt {W : World} {base : Nat} {vs : List Value} {ls : List (List Nat)} (h : Bag W base vs ls) {j : Nat} {v : Value} (hv : vs[j]? = some v) : ∀ k, v.ownBlock = some k → base ≤ k ∧ k < W.heap.size := by
  have hj : j < ls.length := by rw [← h.len]; exact (List.getElem?_eq_some_iff.1 hv).1
  exact (h.own j v _ hv (List.getElem?_eq_getElem hj)).lt
theorem Bag.keep {W W' : World} {base : Nat} {vs : List Value} {ls : List (List Nat)} (h : Bag W base vs ls) (hb : Below W.heap.size W W') : Bag W' base vs ls :=
  ⟨h.len, fun j v l hv hl => (h.own j v l hv hl).keep hb, h.sep⟩
theorem Bag.kept {W W' : World} {base : Nat} {vs : List Value} {ls : List (List Nat)} {x : Value} (h : Bag W base vs ls) (hg : W.grownBy W' x.ownBlock) (hs : ∀ (j : Nat) (v : Value), vs[j]? = some v → Sep v x) : Bag W' base vs ls :=
  ⟨h.len, fun j v l hv hl => (h.own j v l hv hl).kept hg (hs j v hv), h.sep⟩
theorem Bag.nil (W : World) (base : Nat) : Bag W base [] [] := ⟨rfl, fun j v l hv => by simp at hv, fun i j v u _ hv => by simp at hv⟩
theorem snoc_at {α : Type} {l : List α} {x y : α} {j : Nat} (h : (l ++ [x])[j]? = some y) : (j < l.length ∧ l[j]? = some y) ∨ (j = l.length ∧ y = x) := by
  by_cases c : j < l.length
  · rw [List.getElem?_append_left c] at h; exact .inl ⟨c, h⟩
  · rw [List.getElem?_append_right (by omega)] at h
    right
    have : j - l.length < [x].length := (List.getElem?_eq_some_iff.1 h).1
    simp at this
    have e : j - l.length = 0 := by omega
    rw [e] at h
    simp at h
    exact ⟨by omega, h.symm⟩
theorem Bag.snoc {W : World} {base : Nat} {vs : List Value} {ls : List (List Nat)} {u : Value} {f : List Nat} (h : Bag W base vs ls) (hu : Ow W base u f) (hs : ∀ (j : Nat) (v : Value), vs[j]? = some v → Sep v u) : Bag W base (vs ++ [u]) (ls ++ [f]) := by
  refine ⟨by simp [h.len], fun j v l hv hl => ?_, fun i j v x hij hv hx => ?_⟩
  · rcases snoc_at hv with ⟨h1, h2⟩ | ⟨h1, h2⟩ <;> rcases snoc_at hl with ⟨h3, h4⟩ | ⟨h3, h4⟩
    · exact h.own j v l h2 h4
    · have := h.len; omega
    · have := h.len; omega
    · subst h2; subst h4; exact hu
  · rcases snoc_at hv with ⟨h1, h2⟩ | ⟨h1, h2⟩ <;> rcases snoc_at hx with ⟨h3, h4⟩ | ⟨h3, h4⟩
    · exact h.sep i j v x hij h2 h4
    · subst h4; exact hs i v h2
    · subst h2; exact (hs j x h4).symm
    · omega
theorem Bag.ls {W : World} {base : Nat} {vs : List Value} {ls : List (List Nat)} (h : Bag W base vs ls) {v : Value} {b n : Nat} (ho : W.ownsRow b 68 1 v n vs) : Ls W v vs ls := by
  obtain ⟨h1, q, g, cap, rfl, hp, hg, _, _, hc, hm, hr, _⟩ := own_open ho (by omega)
  rw [Nat.mul_one] at h1
  subst h1
  exact ⟨h.len, ⟨q, cap, rfl, hc, hm, fun h0 => ⟨g, 0, hp h0, hg h0, fun j x hx => by rw [Nat.zero_add]; exact hr j x hx⟩⟩, fun j x l hx hl => (h.own j x l hx hl).sl⟩
section
variable {ops : Array Oper} {rest : List Oper} {o : Oper} {a : Act} {w : World} {Q : Exit → Act → World → Prop}
/-- append of one slice of bytes onto an own list of such: its run. -/
theorem app1_run (A : World) (ty : TypeId) {v u : Value} {n g c : Nat} {vs : List Value} (hown : w.ownsRow A.heap.size 68 1 v n vs) (hu : ∃ q m c, u = .slice q m c) (hcell : w.cell? ⟨g, 0, none⟩ = some u) (h63 : n + 1 ≤ 1000000) (hA : Below A.heap.size A w) :
    ∃ v' w', (Builtin.append_ #[56, 56] ty #[v, .slice (some ⟨g, 0, none⟩) 1 c]).run Tryz.prog w = .ok v' w' ∧ w'.ownsRow A.heap.size 68 1 v' (n + 1) (vs ++ [u]) ∧ v' ≠ .slice none 0 0 ∧ Below A.heap.size A w' ∧ w.grownBy w' v.ownBlock ∧ (v'.ownBlock = v.ownBlock ∨ v'.ownBlock = some w.heap.size) := by
  obtain ⟨i, hi, hz0, hz1, hz2⟩ := info_parts infoBytes
  obtain ⟨v', w', hr, h2, h3, h4, h5⟩ := run_append_own_at (P := Tryz.prog) w A.heap.size 56 ty 68 i _ 1 24 Tryz.underlying56 hi hz0 hz1 hz2 rfl (by omega) v n vs hown ⟨g, 0, none⟩ 1 c [u] rfl (fun j x hx => by
      match j, hx with
      | 0, hx => simp at hx; subst hx; rw [Addr.add_mid]; exact hcell) (fun x hx => by simp at hx; subst hx; obtain ⟨q, m, c, rfl⟩ := hu; rfl) (by unfold maxLen; omega) (by omega) hA.size
  refine ⟨v', w', hr, h2, fun e => by have := h4.1 e; omega, ?_, h3, h5⟩
  refine hA.grown h3 hA.size (fun r hr => ?_)
  rcases hown.2 with ⟨rfl, _⟩ | ⟨g', cap', cur', rfl, hbg, _⟩
  · cases hr
  · cases hr; exact hbg
theorem app1 (A : World) (hw : Region.wanted o (yielded ops a.tmps) = true) {s x : Operand} (ho : o.op = .call { callee := .builtin .append, args := #[s, x], argTypes := #[56, 56] })
    {v u : Value} {n g c : Nat} {vs : List Value} (hs : a.eval s = v) (hown : w.ownsRow A.heap.size 68 1 v n vs) (hx : a.eval x = .slice (some ⟨g, 0, none⟩) 1 c) (hu : ∃ q m c, u = .slice q m c) (hcell : w.cell? ⟨g, 0, none⟩ = some u) (h63 : n + 1 ≤ 1000000) (hA : Below A.heap.size A w)
    (h : ∀ v' w', w'.ownsRow A.heap.size 68 1 v' (n + 1) (vs ++ [u]) → v' ≠ .slice none 0 0 → Below A.heap.size A w' → w.grownBy w' v.ownBlock → (v'.ownBlock = v.ownBlock ∨ v'.ownBlock = some w.heap.size) → wpList Tryz.prog ops Q rest (a.put o.dst v') w') : wpList Tryz.prog ops Q (o :: rest) a w := by
  unfold wpList
  rw [if_pos hw]
  left
  obtain ⟨v', w', hr, h1, h2, h3, h4, h5⟩ := app1_run (c := c) A o.type hown hu hcell h63 hA
  unfold Oper.wp execOp
  simp only [ho, resolve, invoke, builtin, Sem.run_bind, Sem.run_pure, Result.andThen_ok, List.map_toArray, List.map_cons, List.map_nil, hs, hx, hr]
  exact h v' w' h1 h2 h3 h4 h5
end
/-- A list and its slices, each of its own. -/
structure Lis (W : World) (base : Nat) (v : Value) (vs : List Value) (ls : List (List Nat)) : Prop where
  row : W.ownsRow base 68 1 v ls.length vs
  bag : Bag W base vs ls
  sep : ∀ (j : Nat) (u : Value), vs[j]? = some u → Sep u v
theorem Lis.nil (W : World) (base : Nat) : Lis W base (.slice none 0 0) [] [] := ⟨World.ownsRow_nil W _ _ _, .nil W base, fun j u h => by simp at h⟩
/-- Behind an append of one more. -/
theorem Lis.snoc {W0 W W' : World} {base : Nat} {v v' u : Value} {vs : List Value} {ls : List (List Nat)} {f : List Nat} (h : Lis W0 base v vs ls) (hb : Below W0.heap.size W0 W) (hu : Ow W W0.heap.size u f) (hbs : base ≤ W0.heap.size)
    (hown : W'.ownsRow base 68 1 v' (ls.length + 1) (vs ++ [u])) (hg : W.grownBy W' v.ownBlock) (hat : v'.ownBlock = v.ownBlock ∨ v'.ownBlock = some W.heap.size) : Lis W' base v' (vs ++ [u]) (ls ++ [f]) := by
  have hvl : ∀ k, v.ownBlock = some k → k < W0.heap.size := fun k hk => (World.ownsRow.lt h.row k hk).2
  have huv : Sep u v := (sep_lt hvl (fun k hk => (hu.lt k hk).1)).symm
  have hsu : ∀ (j : Nat) (x : Value), vs[j]? = some x → Sep x u := fun j x hx => sep_lt (fun k hk => (h.bag.lt hx k hk).2) (fun k hk => (hu.lt k hk).1)
  have B := ((h.bag.keep hb).snoc (hu.less hbs) hsu)
  have hs2 : ∀ (j : Nat) (x : Value), (vs ++ [u])[j]? = some x → Sep x v := fun j x hx => by
    rcases snoc_at hx with ⟨_, h2⟩ | ⟨_, h2⟩
    · exact h.sep j x h2
    · subst h2; exact huv
  refine ⟨by rw [List.length_append]; exact hown, B.kept hg hs2, fun j x hx => ?_⟩
  rcases hat with e | e
  · intro k hk; rw [e]; exact hs2 j x hx k hk
  · intro k hk he
    rw [e] at he
    have := (B.lt hx k hk).2
    simp at he
    omega
theorem Lis.keep {W W' : World} {base : Nat} {v : Value} {vs : List Value} {ls : List (List Nat)} (h : Lis W base v vs ls) (hb : Below W.heap.size W W') : Lis W' base v vs ls := ⟨own_keep h.row hb, h.bag.keep hb, h.sep⟩
theorem Ow.form {W : World} {base : Nat} {v : Value} {l : List Nat} (h : Ow W base v l) : ∃ q cap, v = .slice q l.length cap := by
  obtain ⟨q, cap, e, _⟩ := h.sl
  exact ⟨q, cap, e⟩

/-- The number of a slot. -/
def numOf : Value → Nat
  | .int _ n => n.toNat
  | _ => 0
theorem spt_at (l : List Nat) (fs : List (List Nat)) (h : spt l = fs ++ spt (l.drop (spN fs))) (hok : insOK (l.drop (spN fs)) = true) :
    spt l = (fs ++ [insB (l.drop (spN fs))]) ++ spt (l.drop (spN (fs ++ [insB (l.drop (spN fs))]))) := by
  rw [h, spt_go hok, spN_snoc, List.drop_drop, List.append_assoc]; rfl
set_option maxHeartbeats 1000000 in
theorem split_any (v : Value) (l : List Nat) (w : World) (hv : Sl w v l) (hb : Byt l) (hl : l.length ≤ 1048576) :
    Calls Tryz.prog 41 #[v] w fun e w' => ∃ v' vs, e = .returned (.tuple #[v', .int .i64 ((spN (spt l) : Nat) : Int)]) ∧ Lis w' w.heap.size v' vs (spt l) ∧ Below w.heap.size w w' := by
  obtain ⟨q, cap, g, off, rfl, hc, hm, hp, hg, hr⟩ := hv.open
  clear hp hg hr
  generalize hn : l.length = n at *
  go_enter Tryz.func41, Tryz.ntmps41
  go_wp2_with fail
  go_loopw [4, 5] (fun x i wr => ∃ fs vs, i = .int .i64 ((spN fs : Nat) : Int) ∧ spN fs ≤ n ∧ spt l = fs ++ spt (l.drop (spN fs)) ∧ Lis wr w.heap.size x vs fs ∧ Below w.heap.size w wr) (fun _ i _ => n - numOf i)
  case atStart => exact ⟨[], [], rfl, by simp [spN], by simp [spN], Lis.nil w _, Below.refl _ _⟩
  case round =>
    obtain ⟨fs, vs, rfl, hat, HSP, HL, hbw⟩ := hrel
    have HSP' : Hid (spt l = fs ++ spt (l.drop (spN fs))) := HSP
    clear HSP
    have hvr := hv.keep hbw
    have hbd := hb.drop (spN fs)
    have hlen : (l.drop (spN fs)).length = n - spN fs := by rw [List.length_drop, hn]
    have hfl := spN_len fs
    cases hok : insOK (l.drop (spN fs)) with
    | false =>
      have HE : Hid (spt l = fs) := by show _ = _; rw [HSP'.out, spt_stop hok, List.append_nil]
      generalize hA : spN fs = A at *
      go_wp2_with (first
        | (refine slb_l rfl rfl A rfl rfl rfl hat hvr ?_; intro q2 s2)
        | (go_at_call 63; refine (inside_no _ _ _ s2 hbd hok).mono ?_; rintro e W2 ⟨rfl, hb2⟩))
      go_ret2
      rw [HE.out, hA]
      exact ⟨_, vs, rfl, HL.keep hb2, ab_trans hbw hb2⟩
    | true =>
      have HE := spt_at l fs HSP'.out hok
      have hile := insB_le hok
      have HE' : Hid (spt l = (fs ++ [insB (l.drop (spN fs))]) ++ spt (l.drop (spN (fs ++ [insB (l.drop (spN fs))])))) := HE
      clear HE
      have HN : Hid (spN (fs ++ [insB (l.drop (spN fs))]) = spN fs + (8 + (insB (l.drop (spN fs))).length)) := spN_snoc _ _
      rw [hlen] at hile
      generalize hA : spN fs = A at *
      generalize hF : insB (l.drop A) = F at *
      go_upto_region 4 with (first
        | (refine slb_l rfl rfl A rfl rfl rfl hat hvr ?_; intro q2 s2)
        | (go_at_call 63; refine (inside_ok _ _ _ s2 hbd hok).mono ?_; rw [hF]; rintro e W2 ⟨q3, cap3, rfl, s3, hb2⟩))
      have HL2 := HL.keep hb2
      have hbw2 := ab_trans hbw hb2
      clear HL hbw hvr s2 hbd hlen hok
      generalize hFl : F.length = m at *
      have HFm : Hid (F.length = m) := hFl
      clear hFl
      go_upto_region 6 with fail
      go_wp2_with (first
        | (go_at_call 62; refine (clone_any _ F _ s3 (by rw [HFm.out]; omega)).mono ?_; rintro e W3 ⟨u, rfl, hown3, hb3⟩; have HO3 := ow_of hown3; obtain ⟨q5, cap5, rfl⟩ := HO3.form)
        | (refine bs_ls rfl rfl [_] [F] (by simp only [List.map_toArray, List.map_cons, List.map_nil]; rfl) (bsl1 _ _ _ _) rfl (by decide) rfl (each1 HO3.sl) ?_; intro W4 hls4 hb4 hbk4)
        | (at_builtin; refine app1 w rfl rfl rfl (own_keep HL2.row (ab_trans hb3 hb4)) rfl ⟨_, _, _, rfl⟩ (hbk4.at (i := 0) rfl) (by omega) (ab_trans hbw2 (ab_trans hb3 hb4)) ?_; intro v6 W6 hown6 hnn6 hb6 hgr6 hat6))
      refine ⟨⟨fs ++ [F], vs ++ [_], ?_, ?_, HE'.out, HL2.snoc (ab_trans hb3 hb4) (HO3.keep hb4) hbw2.size hown6 hgr6 hat6, hb6⟩, ?_⟩
      · rw [HN.out]; congr 1
      · rw [HN.out]; omega
      · simp only [numOf]; omega
end Go.Proofs.YthmolbcnbcajdaaGreat
namespace Go.Proofs.YthmolbcnbcajdaaGreat
set_option maxRecDepth 100000
open Go.RowKit
set_option linter.unusedVariables false

/-- What append asks of its source. -/
theorem Is.src {W : World} {v : Value} {l : List Int} (h : Is W v l) : ∃ q cap, v = .slice q l.length cap ∧ (q = none → l.length = 0) ∧ (∀ ad, q = some ad → ∀ j u, (ints l)[j]? = some u → W.cell? (ad.add j) = some u) := by
  obtain ⟨q, cap, g, off, rfl, h1, h2, h3, h4, h5⟩ := h
  refine ⟨q, cap, rfl, fun hq => ?_, fun ad had j u hu => ?_⟩
  · by_cases h0 : 0 < l.length
    · have e := h3 h0
      rw [hq] at e; cases e
    · omega
  · rw [ints_at] at hu
    cases hx : l[j]? with
    | none => rw [hx] at hu; simp at hu
    | some x =>
      rw [hx] at hu
      have e := h3 (by have := (List.getElem?_eq_some_iff.1 hx).1; omega)
      rw [had] at e
      cases e
      rw [Addr.add_mid, h5 j x hx]
      simpa using hu
/-- A slice of numbers of the call's own. -/
def Io (W : World) (base : Nat) (v : Value) (l : List Int) : Prop := W.ownsRow base 3 1 v l.length (ints l)
theorem io_of {W : World} {base n : Nat} {v : Value} {l : List Int} (h : W.ownsRow base 3 1 v n (ints l)) : Io W base v l := by
  have := h.1
  rw [ints_len, Nat.mul_one] at this
  unfold Io
  rw [this]
  exact h
theorem Io.is {W : World} {base : Nat} {v : Value} {l : List Int} (h : Io W base v l) : Is W v l := own_is h
theorem Io.keep {W W' : World} {base : Nat} {v : Value} {l : List Int} (h : Io W base v l) (hb : Below W.heap.size W W') : Io W' base v l := own_keep h hb
theorem Io.less {W : World} {base base' : Nat} {v : Value} {l : List Int} (h : Io W base v l) (hb : base' ≤ base) : Io W base' v l := own_less h hb
theorem Io.lt {W : World} {base : Nat} {v : Value} {l : List Int} (h : Io W base v l) : ∀ k, v.ownBlock = some k → base ≤ k ∧ k < W.heap.size := World.ownsRow.lt h
theorem Io.kept {W W' : World} {base : Nat} {v x : Value} {l : List Int} (h : Io W base v l) (hg : W.grownBy W' x.ownBlock) (hs : Sep v x) : Io W' base v l := World.ownsRow.kept h hg hs.row
/-- Blocks stay apart where one of them grows. -/
theorem sep_at {a b b' : Value} {m : Nat} (h : Sep a b) (hl : ∀ k, a.ownBlock = some k → k < m) (hat : b'.ownBlock = b.ownBlock ∨ b'.ownBlock = some m) : Sep a b' := by
  intro k hk
  rcases hat with e | e
  · rw [e]; exact h k hk
  · rw [e]; intro he; have := hl k hk; simp at he; omega
section
variable {ops : Array Oper} {rest : List Oper} {o : Oper} {a : Act} {w : World} {Q : Exit → Act → World → Prop}
theorem appi_run (A : World) (ty : TypeId) {v vx : Value} {n k : Nat} {l m : List Int} (hown : w.ownsRow A.heap.size 3 1 v n (ints l)) (hsl : Is w vx m) (hm : m.length = k) (h63 : n + k ≤ 1000000) (hA : Below A.heap.size A w) :
    ∃ v' w', (Builtin.append_ #[22, 22] ty #[v, vx]).run Tryz.prog w = .ok v' w' ∧ w'.ownsRow A.heap.size 3 1 v' (n + k) (ints (l ++ m)) ∧ (v' = .slice none 0 0 ↔ v = .slice none 0 0 ∧ k = 0) ∧ Below A.heap.size A w' ∧ w.grownBy w' v.ownBlock ∧ (v'.ownBlock = v.ownBlock ∨ v'.ownBlock = some w.heap.size) := by
  obtain ⟨i, hi, hz0, hz1, hz2⟩ := info_parts infoInt
  subst hm
  obtain ⟨q, cap, rfl, hq, hsrc⟩ := hsl.src
  cases q with
  | none =>
    have h0 := hq rfl
    have hm0 : m = [] := List.eq_nil_of_length_eq_zero h0
    subst hm0
    exact ⟨v, w, append_none (P := Tryz.prog) w A.heap.size 22 ty 3 i 1 cap Tryz.underlying22 hi v n (ints l) hown, by simpa using hown, by simp, hA, ⟨rfl, rfl, rfl, Nat.le_refl _, fun _ _ _ => rfl⟩, .inl rfl⟩
  | some ad =>
    obtain ⟨v', w', hr, h2, h3, h4, h5⟩ := run_append_own_at (P := Tryz.prog) w A.heap.size 22 ty 3 i _ 1 8 Tryz.underlying22 hi hz0 hz1 hz2 rfl (by omega) v n (ints l) hown ad m.length cap (ints m) (by rw [ints_len, Nat.mul_one]) (hsrc ad rfl) (ints_one m) (by unfold maxLen; omega) (by omega) hA.size
    refine ⟨v', w', hr, by rw [← ints_append]; exact h2, h4, ?_, h3, h5⟩
    refine hA.grown h3 hA.size (fun r hr => ?_)
    rcases hown.2 with ⟨rfl, _⟩ | ⟨g', cap', cur', rfl, hbg, _⟩
    · cases hr
    · cases hr; exact hbg
theorem app_i (A : World) (hw : Region.wanted o (yielded ops a.tmps) = true) {s x : Operand} (ho : o.op = .call { callee := .builtin .append, args := #[s, x], argTypes := #[22, 22] })
    {v vx : Value} {n k : Nat} {l m : List Int} (hs : a.eval s = v) (hown : w.ownsRow A.heap.size 3 1 v n (ints l)) (hx : a.eval x = vx) (hsl : Is w vx m) (hm : m.length = k) (h63 : n + k ≤ 1000000) (hA : Below A.heap.size A w)
    (h : ∀ v' w', w'.ownsRow A.heap.size 3 1 v' (n + k) (ints (l ++ m)) → (v' = .slice none 0 0 ↔ v = .slice none 0 0 ∧ k = 0) → Below A.heap.size A w' → w.grownBy w' v.ownBlock → (v'.ownBlock = v.ownBlock ∨ v'.ownBlock = some w.heap.size) → wpList Tryz.prog ops Q rest (a.put o.dst v') w') : wpList Tryz.prog ops Q (o :: rest) a w := by
  unfold wpList
  rw [if_pos hw]
  left
  obtain ⟨v', w', hr, h1, h2, h3, h4, h5⟩ := appi_run A o.type hown hsl hm h63 hA
  unfold Oper.wp execOp
  simp only [ho, resolve, invoke, builtin, Sem.run_bind, Sem.run_pure, Result.andThen_ok, List.map_toArray, List.map_cons, List.map_nil, hs, hx, hr]
  exact h v' w' h1 h2 h3 h4 h5
/-- An operation that yields, at one operation. -/
theorem valWf {K : Act → World → Prop} (d : Option Tmp) (hd : o.dst = d) (v : Value) (hr : (execOp a.eval o).run Tryz.prog w = .ok (.value v) w) (h : K (a.put d v) w) : o.wp Tryz.prog a w K Q := by
  subst hd
  unfold Oper.wp
  rw [hr, Oper.upon_value]
  exact h
/-- A slice of numbers, just made: at one operation. -/
theorem bs_iW {K : Act → World → Prop} (d : Option Tmp) (hd : o.dst = d) {n : Nat} {parts : Array (Nat × Operand)} (ho : o.op = .buildSlice 22 n parts) (xs : List Int) {vs : Array (Nat × Value)} (hl : parts.map (fun (i, x) => (i, a.eval x)) = vs)
    (hrun : (Instr.buildSlice 22 n vs).run Tryz.prog w = .ok (.slice (some ⟨w.heap.size, 0, none⟩) n n) (w.alloc (.cells (ints xs).toArray 3))) (hn : xs.length = n) (hm : n ≤ maxLen)
    (h : ∀ W', W'.ownsRow w.heap.size 3 1 (.slice (some ⟨w.heap.size, 0, none⟩) n n) n (ints xs) → Below w.heap.size w W' → K (a.put d (.slice (some ⟨w.heap.size, 0, none⟩) n n)) W') : o.wp Tryz.prog a w K Q := by
  subst hd
  unfold Oper.wp execOp
  simp only [ho, Sem.run_bind, hl, hrun, Result.andThen_ok]
  exact h _ (own_new w xs n hn hm _ (Nat.le_refl _)) ((Below.refl _ _).alloc (Nat.le_refl _) _)
end
end Go.Proofs.YthmolbcnbcajdaaGreat
namespace Go.Proofs.YthmolbcnbcajdaaGreat
open Go.RowKit
set_option linter.unusedVariables false
set_option maxRecDepth 100000

/-- Nothing but these blocks has turned, of those that there were. -/
structure Frm (X : Nat → Prop) (W W' : World) : Prop where
  os : W'.os = W.os
  tape : W'.tape = W.tape
  output : W'.output = W.output
  size : W.heap.size ≤ W'.heap.size
  other : ∀ k, k < W.heap.size → ¬ X k → W'.heap[k]? = W.heap[k]?
theorem Frm.refl (X : Nat → Prop) (W : World) : Frm X W W := ⟨rfl, rfl, rfl, Nat.le_refl _, fun _ _ _ => rfl⟩
theorem Frm.trans {X : Nat → Prop} {A B C : World} (h : Frm X A B) (k : Frm X B C) : Frm X A C :=
  ⟨k.os.trans h.os, k.tape.trans h.tape, k.output.trans h.output, Nat.le_trans h.size k.size, fun i hi hx => (k.other i (Nat.lt_of_lt_of_le hi h.size) hx).trans (h.other i hi hx)⟩
theorem Frm.mono {X Y : Nat → Prop} {A B : World} (h : Frm X A B) (hxy : ∀ k, X k → Y k) : Frm Y A B := ⟨h.os, h.tape, h.output, h.size, fun i hi hy => h.other i hi (fun hx => hy (hxy i hx))⟩
/-- What is new may turn. -/
theorem Frm.young {X Y : Nat → Prop} {A B C : World} (h : Frm X A B) (k : Frm Y B C) (hxy : ∀ k, k < A.heap.size → Y k → X k) : Frm X A C :=
  ⟨k.os.trans h.os, k.tape.trans h.tape, k.output.trans h.output, Nat.le_trans h.size k.size, fun i hi hx => (k.other i (Nat.lt_of_lt_of_le hi h.size) (fun hy => hx (hxy i hi hy))).trans (h.other i hi hx)⟩
theorem frm_below {X : Nat → Prop} {A B : World} (h : Below A.heap.size A B) : Frm X A B := ⟨h.os, h.tape, h.output, h.size, fun i hi _ => h.block i hi⟩
theorem frm_chg {X : Nat → Prop} {A B : World} {b : Nat} (h : Chg b A B) (hb : X b) : Frm X A B := ⟨h.os, h.tape, h.output, Nat.le_of_eq h.size.symm, fun i hi hx => h.other i (fun e => hx (e ▸ hb))⟩
theorem frm_grown {X : Nat → Prop} {A B : World} {b : Nat} (h : A.grownBy B (some b)) (hb : X b) : Frm X A B := ⟨h.os, h.tape, h.output, h.size, fun i hi hx => h.block i hi (fun e => hx (by cases e; exact hb))⟩
theorem Frm.below {X : Nat → Prop} {A B : World} (h : Frm X A B) {n : Nat} (hn : n ≤ A.heap.size) (hx : ∀ k, X k → n ≤ k) : Below n A B := ⟨h.os, h.tape, h.output, h.size, fun i hi => h.other i (Nat.lt_of_lt_of_le hi hn) (fun e => by have := hx i e; omega)⟩
theorem Blk.frm {X : Nat → Prop} {W W' : World} {b : Nat} {vs : Array Value} {t : TypeId} (h : Blk W b vs t) (hf : Frm X W W') (hx : ¬ X b) : Blk W' b vs t := by
  unfold Blk; rw [hf.other b h.lt hx]; exact h
/-- What kind of block it is. -/
def kindR (W : World) (k : Nat) (t : TypeId) : Prop := ∃ cur fr, W.heap[k]? = some (.cells cur t fr)
theorem kindR.uniq {W : World} {k : Nat} {t t' : TypeId} (h : kindR W k t) (h' : kindR W k t') : t = t' := by
  obtain ⟨c, f, e⟩ := h
  obtain ⟨c', f', e'⟩ := h'
  rw [e] at e'
  cases e'
  rfl
theorem Blk.kindR {W : World} {k : Nat} {xs : Array Value} {t : TypeId} (h : Blk W k xs t) : kindR W k t := ⟨xs, _, h⟩
theorem own_kindR {W : World} {B n e s : Nat} {v : Value} {xs : List Value} (h : W.ownsRow B e s v n xs) {k : Nat} (hk : v.ownBlock = some k) : kindR W k e := by
  rcases h.2 with ⟨h2, _⟩ | ⟨g, cap, cur, h2, _, hg, _⟩
  · rw [h2] at hk; cases hk
  · rw [h2] at hk
    have : g = k := by simpa [Value.ownBlock] using hk
    subst this
    exact ⟨cur, _, hg⟩
/-- None of these blocks holds numbers. -/
def NoI (X : Nat → Prop) (W : World) : Prop := ∀ k, X k → ¬ kindR W k 3
theorem Io.frm {X : Nat → Prop} {W W' : World} {B : Nat} {v : Value} {l : List Int} (h : Io W B v l) (hf : Frm X W W') (hx : NoI X W) : Io W' B v l :=
  own_at h fun g hg => hf.other g (h.lt g hg).2 (fun e => hx g e (own_kindR h hg))
end Go.Proofs.YthmolbcnbcajdaaGreat
namespace Go.Proofs.YthmolbcnbcajdaaGreat
set_option maxRecDepth 100000
open Go.RowKit
set_option linter.unusedVariables false

theorem irow_take2 {W : World} {g off : Nat} {l : List Int} (h : IRow W g off l) (k : Nat) : IRow W g off (l.take k) := by
  intro j x hx
  have hj := (List.getElem?_eq_some_iff.1 hx).1
  rw [List.length_take] at hj
  rw [List.getElem?_take_of_lt (by omega)] at hx
  exact h j x hx
theorem irow_drop2 {W : World} {g off : Nat} {l : List Int} (h : IRow W g off l) (k : Nat) : IRow W g (off + k) (l.drop k) := by
  intro j x hx
  rw [List.getElem?_drop] at hx
  have := h (k + j) x hx
  rwa [← Nat.add_assoc] at this
theorem Is.len {W : World} {q : Option Addr} {n cap : Nat} {l : List Int} (h : Is W (.slice q n cap) l) : l.length = n ∧ n ≤ cap ∧ cap ≤ 9223372036854775807 := by
  obtain ⟨q', cap', g, off, e, h1, h2, _⟩ := h
  cases e
  exact ⟨rfl, h1, h2⟩
theorem Is.nil (W : World) : Is W (.slice none 0 0) [] := ⟨none, 0, 0, 0, rfl, Nat.le_refl _, by omega, fun h => absurd h (by simp), fun h => absurd h (by simp), fun j x h => by simp at h⟩
theorem Is.form {W : World} {v : Value} {l : List Int} (h : Is W v l) : ∃ q cap, v = .slice q l.length cap := by
  obtain ⟨q, cap, g, off, e, _⟩ := h
  exact ⟨q, cap, e⟩
/-- A part of a slice of numbers. -/
theorem Is.sub {W : World} {q : Option Addr} {n cap : Nat} {l : List Int} (h : Is W (.slice q n cap) l) {i j sc : Nat} {v : Value} (hij : i ≤ j) (hjn : j ≤ n) (hsc : sc ≤ cap) (hjc : j ≤ sc) (hv : v = sliced q i j sc 1) : Is W v ((l.drop i).take (j - i)) := by
  obtain ⟨q', cap', g, off, e, h1, h2, h3, h4, h5⟩ := h
  cases e
  have hl : ((l.drop i).take (j - i)).length = j - i := by rw [List.length_take, List.length_drop]; omega
  subst hv
  unfold sliced
  by_cases c : sc = i
  · rw [if_pos c]
    refine ⟨q, sc - i, g, off, by rw [hl], by omega, by omega, fun h0 => ?_, fun h0 => ?_, fun j' x hx => ?_⟩
    · rw [hl] at h0; omega
    · rw [hl] at h0; omega
    · have := (List.getElem?_eq_some_iff.1 hx).1; rw [hl] at this; omega
  · rw [if_neg c]
    refine ⟨_, sc - i, g, off + i, by rw [hl], by omega, by omega, fun h0 => ?_, fun h0 => ?_, irow_take2 (irow_drop2 h5 i) _⟩
    · rw [hl] at h0
      rw [h3 (by omega), Option.map_some, Addr.add_mid, Nat.mul_one]
    · rw [hl] at h0
      exact h4 (by omega)
/-- One of its numbers. -/
theorem Is.at {W : World} {q : Option Addr} {n cap : Nat} {l : List Int} (h : Is W (.slice q n cap) l) (hn : 0 < n) : ∃ g off, q = some ⟨g, off, none⟩ ∧ g < W.heap.size ∧ IRow W g off l := by
  obtain ⟨q', cap', g, off, e, h1, h2, h3, h4, h5⟩ := h
  cases e
  exact ⟨g, off, h3 hn, h4 hn, h5⟩
theorem sizeN (w : World) : (sizeOf (Tryz.prog.elem 22)).run Tryz.prog w = .ok 1 w := by kernel_rfl
theorem eltN : Tryz.prog.underlying 22 = some (.slice (Tryz.prog.elem 22)) := by kernel_rfl
section
variable {ops : Array Oper} {rest : List Oper} {o : Oper} {a : Act} {w : World} {Q : Exit → Act → World → Prop}
theorem sli_l_run {ρ : Operand → Value} {x y : Operand} (ho : o.op = .slice 22 x (some y) none none) {q : Option Addr} {n cap i : Nat} {I : Int} {ki : IntKind}
    (hx : ρ x = .slice q n cap) (hy : ρ y = .int ki I) (hI : I = (i : Int)) (h1 : i ≤ n) (h2 : n ≤ cap) : (execOp ρ o).run Tryz.prog w = .ok (.value (sliced q i n cap 1)) w := by
  subst hI
  unfold execOp
  simp only [ho, hx, hy, Option.map_some, Option.map_none, Sem.run_bind, run_sliceAt_slice w 22 _ _ _ _ eltN, run_slice_l w 22 q n cap eltN _ (i : Int) (by omega) (by omega), sizeN, Result.andThen_ok, Sem.run_pure, Int.toNat_natCast]
theorem sli_h_run {ρ : Operand → Value} {x z : Operand} (ho : o.op = .slice 22 x none (some z) none) {q : Option Addr} {n cap j : Nat} {J : Int} {kj : IntKind}
    (hx : ρ x = .slice q n cap) (hz : ρ z = .int kj J) (hJ : J = (j : Int)) (h2 : j ≤ cap) : (execOp ρ o).run Tryz.prog w = .ok (.value (sliced q 0 j cap 1)) w := by
  subst hJ
  unfold execOp
  simp only [ho, hx, hz, Option.map_some, Option.map_none, Sem.run_bind, run_sliceAt_slice w 22 _ _ _ _ eltN, run_slice_h w 22 q n cap eltN _ (j : Int) (by omega) (by omega), sizeN, Result.andThen_ok, Sem.run_pure, Int.toNat_natCast]
/-- 'l[i:]' of numbers that an earlier world holds. -/
theorem sli_l (V : World) (hw : Region.wanted o (yielded ops a.tmps) = true) {x y : Operand} (ho : o.op = .slice 22 x (some y) none none) {q : Option Addr} {n cap : Nat} {I : Int} {ki : IntKind} {l : List Int} (i : Nat)
    (hx : a.eval x = .slice q n cap) (hy : a.eval y = .int ki I) (hI : I = (i : Int)) (h1 : i ≤ n) (hsl : Is V (.slice q n cap) l)
    (hK : ∀ q', Is V (.slice q' (n - i) (cap - i)) (l.drop i) → wpList Tryz.prog ops Q rest (a.put o.dst (.slice q' (n - i) (cap - i))) w) : wpList Tryz.prog ops Q (o :: rest) a w := by
  have hc := hsl.len
  obtain ⟨q', e⟩ := sliced_form q i n cap
  have hr := sli_l_run (w := w) ho hx hy hI h1 hc.2.1
  rw [e] at hr
  refine valS hw _ hr (hK q' ?_)
  have := hsl.sub h1 (Nat.le_refl _) (Nat.le_refl _) hc.2.1 e.symm
  rwa [List.take_of_length_le (by rw [List.length_drop]; omega)] at this
theorem sli_h (V : World) (hw : Region.wanted o (yielded ops a.tmps) = true) {x z : Operand} (ho : o.op = .slice 22 x none (some z) none) {q : Option Addr} {n cap : Nat} {J : Int} {kj : IntKind} {l : List Int} (j : Nat)
    (hx : a.eval x = .slice q n cap) (hz : a.eval z = .int kj J) (hJ : J = (j : Int)) (h1 : j ≤ n) (hsl : Is V (.slice q n cap) l)
    (hK : ∀ q', Is V (.slice q' j cap) (l.take j) → wpList Tryz.prog ops Q rest (a.put o.dst (.slice q' j cap)) w) : wpList Tryz.prog ops Q (o :: rest) a w := by
  have hc := hsl.len
  obtain ⟨q', e⟩ := sliced_form q 0 j cap
  have hr := sli_h_run (w := w) ho hx hz hJ (by omega)
  rw [e] at hr
  refine valS hw _ hr (hK q' ?_)
  have := hsl.sub (Nat.zero_le _) h1 (Nat.le_refl _) (by omega) e.symm
  simpa using this
end
section
variable {ops : Array Oper} {rest : List Oper} {o : Oper} {a : Act} {w : World} {Q : Exit → Act → World → Prop}
theorem appiW {K : Act → World → Prop} (A : World) (d : Option Tmp) (hd : o.dst = d) {s x : Operand} (ho : o.op = .call { callee := .builtin .append, args := #[s, x], argTypes := #[22, 22] })
    {v vx : Value} {n k : Nat} {l m : List Int} (hs : a.eval s = v) (hown : w.ownsRow A.heap.size 3 1 v n (ints l)) (hx : a.eval x = vx) (hsl : Is w vx m) (hm : m.length = k) (h63 : (n + k) * 8 ≤ 140737488355328) (hA : Below A.heap.size A w)
    (h : ∀ v' w', w'.ownsRow A.heap.size 3 1 v' (n + k) (ints (l ++ m)) → (v' = .slice none 0 0 ↔ v = .slice none 0 0 ∧ k = 0) → Below A.heap.size A w' → w.grownBy w' v.ownBlock → K (a.put d v') w') : o.wp Tryz.prog a w K Q := by
  subst hm
  obtain ⟨q, cap, rfl, hq, hsrc⟩ := hsl.src
  refine appW A d hd ho Tryz.underlying22 infoInt rfl (by omega) hs hown (ints m) hx hq (by rw [ints_len, Nat.mul_one]) hsrc (ints_one m) (by unfold maxLen; omega) h63 hA fun v' w' h1 h2 h3 h4 => ?_
  rw [ints_append] at h1
  exact h v' w' h1 h2 h3 h4
theorem mkW {K : Act → World → Prop} (A : World) (d : Option Tmp) (hd : o.dst = d) {x y : Operand} (ho : o.op = .makeSlice 22 x y)
    {c : Nat} {C : Int} (hx : a.eval x = .int .i64 0) (hy : a.eval y = .int .i64 C) (hC : C = (c : Int)) (hb : 8 * c ≤ 281474976710656) (hA : Below A.heap.size A w)
    (h : ∀ v w', w'.ownsRow A.heap.size 3 1 v 0 (ints []) → v ≠ .slice none 0 0 → Below A.heap.size A w' → K (a.put d v) w') : o.wp Tryz.prog a w K Q := by
  subst hC
  subst hd
  obtain ⟨i, hi, hz0, hz1, hz2⟩ := info_parts infoInt
  obtain ⟨w', hr, ho', hg⟩ := run_make_own (P := Tryz.prog) w A.heap.size 22 3 i _ 1 Tryz.underlying22 hi hz0 hz1 .i64 .i64 c (by rw [hz2]; exact hb) (by unfold maxLen; omega) hA.size
  unfold Oper.wp execOp
  simp only [ho, Sem.run_bind, hx, hy, hr, Result.andThen_ok]
  exact h _ _ ho' (by simp) (below_grown hA hg)
end
theorem io_chg {W W' : World} {base b : Nat} {v : Value} {l : List Int} (h : Io W base v l) (hc : Chg b W W') (hb : b < base) : Io W' base v l := by
  refine ⟨h.1, ?_⟩
  rcases h.2 with h2 | ⟨g, cap, cur, h1, h2, hg, h3⟩
  · exact .inl h2
  · exact .inr ⟨g, cap, cur, h1, h2, Blk.chg hg hc (by omega), h3⟩
/-- A copy of numbers, with a mark behind them. -/
def Cn (W : World) (base : Nat) (v : Value) (l : List Int) : Prop := ∃ g cap, v = .slice (some ⟨g, 0, none⟩) l.length cap ∧ Io W base (.slice (some ⟨g, 0, none⟩) (l ++ [-77]).length cap) (l ++ [-77])
theorem Cn.keep {W W' : World} {base : Nat} {v : Value} {l : List Int} (h : Cn W base v l) (hb : Below W.heap.size W W') : Cn W' base v l := by
  obtain ⟨g, cap, rfl, h1⟩ := h
  exact ⟨g, cap, rfl, h1.keep hb⟩
theorem Cn.chg {W W' : World} {base b : Nat} {v : Value} {l : List Int} (h : Cn W base v l) (hc : Chg b W W') (hb : b < base) : Cn W' base v l := by
  obtain ⟨g, cap, rfl, h1⟩ := h
  exact ⟨g, cap, rfl, io_chg h1 hc hb⟩
theorem Cn.less {W : World} {base base' : Nat} {v : Value} {l : List Int} (h : Cn W base v l) (hb : base' ≤ base) : Cn W base' v l := by
  obtain ⟨g, cap, rfl, h1⟩ := h
  exact ⟨g, cap, rfl, h1.less hb⟩
theorem Cn.open {W : World} {base : Nat} {v : Value} {l : List Int} (h : Cn W base v l) : Is W v l ∧ ∃ g cap, v = .slice (some ⟨g, 0, none⟩) l.length cap ∧ l.length + 1 ≤ cap ∧ W.cell? ⟨g, l.length, none⟩ = some (.int .i64 (-77)) := by
  obtain ⟨g, cap, rfl, h1⟩ := h
  obtain ⟨q, cap', g', off, e, x1, x2, x3, x4, x5⟩ := h1.is
  cases e
  have := x3 (by simp)
  cases this
  rw [List.length_append] at x1
  refine ⟨⟨_, cap, g, 0, rfl, Nat.le_trans (Nat.le_add_right _ _) x1, x2, fun _ => rfl, fun _ => x4 (by simp), fun j x hj => x5 j x ?_⟩, g, cap, rfl, x1, ?_⟩
  · rw [List.getElem?_append_left (List.getElem?_eq_some_iff.1 hj).1]; exact hj
  · have := x5 l.length (-77) (by simp)
    rwa [Nat.zero_add] at this
theorem Cn.is {W : World} {base : Nat} {v : Value} {l : List Int} (h : Cn W base v l) : Is W v l := h.open.1
theorem sep_old {W : World} {base e size n : Nat} {v u : Value} {xs : List Value} (h : W.ownsRow base e size v n xs) (hu : u.ownBlock = some W.heap.size) : Sep u v := by
  intro k hk hv
  have := World.ownsRow.lt h k hv
  rw [hu] at hk
  cases hk
  omega
theorem copied_cn {W : World} {base n g cap : Nat} {l : List Int} (h : W.ownsRow base 3 1 (.slice (some ⟨g, 0, none⟩) (0 + n + 1) cap) (0 + n + 1) (ints ([] ++ l ++ [-77]))) (hn : l.length = n) : Cn W base (.slice (some ⟨g, 0, none⟩) n cap) l := by
  subst hn
  refine ⟨g, cap, rfl, ?_⟩
  have e : (l ++ [-77]).length = 0 + l.length + 1 := by simp
  unfold Io
  rw [e]
  simpa using h
theorem sliced_0 (g n cap : Nat) : sliced (some ⟨g, 0, none⟩) 0 n cap 1 = .slice (some ⟨g, 0, none⟩) n cap := by
  unfold sliced
  simp [Addr.add]
end Go.Proofs.YthmolbcnbcajdaaGreat
namespace Go.Proofs.YthmolbcnbcajdaaGreat
set_option maxRecDepth 100000
open Go.RowKit
set_option linter.unusedVariables false

/-- The numbers that bytes consist of. -/
def nus (b : List Nat) : Option (List Int) := if b = [] then some [] else if h : nOK b = true then (nus (b.drop (nS b))).map (nV b :: ·) else none
termination_by b.length
decreasing_by
  have := nS_le h
  rw [List.length_drop]
  omega
theorem nus_nil : nus [] = some [] := by rw [nus, if_pos rfl]
theorem nOK_ne {b : List Nat} (h : nOK b = true) : b ≠ [] := by
  intro e
  subst e
  simp [nOK] at h
theorem nus_go {b : List Nat} (h : nOK b = true) : nus b = (nus (b.drop (nS b))).map (nV b :: ·) := by rw [nus, if_neg (nOK_ne h), dif_pos h]
theorem nus_no {b : List Nat} (h0 : b ≠ []) (h : nOK b = false) : nus b = none := by rw [nus, if_neg h0, dif_neg (by simp [h])]
theorem nus_put (ns : List Int) (h : In64 ns) : nus (numsB ns) = some ns := by
  induction ns with
  | nil => exact nus_nil
  | cons n r ih =>
    have h1 := h n (List.mem_cons_self ..)
    obtain ⟨a, b, c⟩ := num_put n (numsB r) h1.1 h1.2
    have e : numsB (n :: r) = numB n ++ numsB r := by simp [numsB]
    rw [e, nus_go a, b, c, List.drop_append_of_le_length (Nat.le_refl _), List.drop_length, List.nil_append, ih (fun x hx => h x (List.mem_cons_of_mem _ hx))]
    rfl
/-- At most so many. -/
def numsR (b : List Nat) (most : Int) : Option (List Int) := (nus b).bind fun r => if 0 < r.length ∧ most < (r.length : Int) then none else some r
theorem numsR_some {b : List Nat} {most : Int} {done : List Int} (h : nus b = some done) (hm : done = [] ∨ (done.length : Int) ≤ most) : numsR b most = some done := by
  rw [numsR, h, Option.bind_some, if_neg]
  rintro ⟨h1, h2⟩
  rcases hm with rfl | hm
  · simp at h1
  · omega
theorem numsR_none {b : List Nat} {most : Int} (h : nus b = none) : numsR b most = none := by rw [numsR, h, Option.bind_none]
theorem numsR_full {b rest : List Nat} {most : Int} {done : List Int} (h : nus b = (nus rest).map (done ++ ·)) (hok : nOK rest = true) (hm : most ≤ (done.length : Int)) : numsR b most = none := by
  rw [numsR, h, nus_go hok]
  cases nus (rest.drop (nS rest)) with
  | none => rfl
  | some r =>
    simp only [Option.map_some, Option.bind_some]
    rw [if_pos]
    simp
    omega
theorem nus_step {b rest : List Nat} {done : List Int} (h : nus b = (nus rest).map (done ++ ·)) (hok : nOK rest = true) : nus b = (nus (rest.drop (nS rest))).map ((done ++ [nV rest]) ++ ·) := by
  rw [h, nus_go hok]
  cases nus (rest.drop (nS rest)) with
  | none => rfl
  | some r => simp
/-- What Nums answers. -/
structure NP (W : World) (base : Nat) (r : Option (List Int)) (e : Ending) : Prop where
  some : ∀ x, r = some x → ∃ v', e = .returned (.tuple #[v', .nilIface]) ∧ Io W base v' x
  none : r = none → e = .returned (.tuple #[.slice none 0 0, Err 3])
/-- How long a slice is. -/
def slLen : Value → Nat
  | .slice _ n _ => n
  | _ => 0
theorem Sl.slLen {W : World} {v : Value} {l : List Nat} (h : Sl W v l) : slLen v = l.length := by
  obtain ⟨q, cap, rfl, _⟩ := h
  rfl
theorem Io.form {W : World} {base : Nat} {v : Value} {l : List Int} (h : Io W base v l) : ∃ q cap, v = .slice q l.length cap := by
  obtain ⟨q, cap, g, off, e, _⟩ := h.is
  exact ⟨q, cap, e⟩

section
variable {ops : Array Oper} {rest : List Oper} {o : Oper} {a : Act} {w : World} {Q : Exit → Act → World → Prop}
/-- 'b[i:]' of bytes that an earlier world holds. -/
theorem slb_l' (V : World) (hw : Region.wanted o (yielded ops a.tmps) = true) {x y : Operand} (ho : o.op = .slice 68 x (some y) none none) {q : Option Addr} {n cap : Nat} {I : Int} {ki : IntKind} {l : List Nat} (i : Nat)
    (hx : a.eval x = .slice q n cap) (hy : a.eval y = .int ki I) (hI : I = (i : Int)) (h1 : i ≤ n) (hsl : Sl V (.slice q n cap) l)
    (hK : ∀ q', Sl V (.slice q' (n - i) (cap - i)) (l.drop i) → wpList Tryz.prog ops Q rest (a.put o.dst (.slice q' (n - i) (cap - i))) w) : wpList Tryz.prog ops Q (o :: rest) a w := by
  have hc := hsl.len
  obtain ⟨q', e⟩ := sliced_form q i n cap
  have hr := slb_l_run (w := w) ho hx hy hI h1 hc.2.1
  rw [e] at hr
  refine valS hw _ hr (hK q' ?_)
  have := hsl.sub h1 (Nat.le_refl _) (Nat.le_refl _) hc.2.1 e.symm
  rwa [List.take_of_length_le (by rw [List.length_drop]; omega)] at this
end
set_option maxHeartbeats 1000000 in
theorem fnums_any (v : Value) (l : List Nat) (most : Int) (w : World) (hv : Sl w v l) (hb : Byt l) (hl : l.length ≤ 100000) :
    Calls Tryz.prog 65 #[v, .int .i64 most] w fun e w' => NP w' w.heap.size (numsR l most) e ∧ Below w.heap.size w w' := by
  obtain ⟨q, cap, e, -⟩ := id hv
  subst e
  generalize hn : l.length = n at *
  go_enter Tryz.func65, Tryz.ntmps65
  go_wp2_with fail
  go_loopw [0, 6] (fun x y wr => ∃ rest done, Sl w x rest ∧ Byt rest ∧ Io wr w.heap.size y done ∧ nus l = (nus rest).map (done ++ ·) ∧ (done = [] ∨ (done.length : Int) ≤ most) ∧ done.length + rest.length ≤ n ∧ Below w.heap.size w wr) (fun x _ _ => slLen x)
  case atStart => exact ⟨l, [], hv, hb, io_of (World.ownsRow_nil w _ _ _), by simp, .inl rfl, by simp [hn], Below.refl _ _⟩
  case round =>
    obtain ⟨rest, done, S, B, O, HN, HM, hlen, hbw⟩ := hrel
    obtain ⟨q2, cap2, e, -⟩ := id S
    subst e
    have Sr := S.keep hbw
    obtain ⟨q3, cap3, e⟩ := O.form
    subst e
    have HN' : Hid (nus l = (nus rest).map (done ++ ·)) := HN
    have HM' : Hid (done = [] ∨ (done.length : Int) ≤ most) := HM
    clear HN HM
    by_cases c : rest = []
    · subst c
      have HR : Hid (numsR l most = some done) := numsR_some (by rw [HN'.out, nus_nil]; simp) HM'.out
      go_wp2_with fail
      go_ret2
      refine ⟨⟨fun x hx => ?_, fun hx => by rw [HR.out] at hx; cases hx⟩, hbw⟩
      rw [HR.out] at hx
      cases hx
      exact ⟨_, rfl, O⟩
    · have hpos : 0 < rest.length := List.length_pos_iff.2 c
      generalize hr : rest.length = m at *
      generalize hd : done.length = k at *
      have hmi : (0 : Int) < (m : Int) := by omega
      cases hok : nOK rest with
      | false =>
        have HR : Hid (numsR l most = none) := numsR_none (by rw [HN'.out, nus_no c hok]; rfl)
        go_wp2_with (go_at_call 90; refine (number_no _ _ _ Sr B hok).mono ?_; rintro e W2 ⟨rfl, rfl⟩)
        go_ret2
        exact ⟨⟨fun x hx => (by rw [HR.out] at hx; cases hx), fun _ => rfl⟩, hbw⟩
      | true =>
        by_cases hmost : most ≤ (k : Int)
        · have HR : Hid (numsR l most = none) := numsR_full HN'.out hok (by rw [hd]; exact hmost)
          go_wp2_with (go_at_call 90; refine (number_ok _ _ _ Sr B hok).mono ?_; rintro e W2 ⟨rfl, rfl⟩)
          go_ret2
          exact ⟨⟨fun x hx => (by rw [HR.out] at hx; cases hx), fun _ => rfl⟩, hbw⟩
        · have HS : Hid (nus l = (nus (rest.drop (nS rest))).map ((done ++ [nV rest]) ++ ·)) := nus_step HN'.out hok
          have hnS := nS_le hok
          have hbd := B.drop (nS rest)
          have HL : Hid ((rest.drop (nS rest)).length = m - nS rest) := by show _ = _; rw [List.length_drop, hr]
          have HD : Hid ((done ++ [nV rest]).length = k + 1) := by show _ = _; rw [List.length_append, hd]; rfl
          have HK : Hid (done.length + 1 ≤ 1000000) := by show _ ≤ _; omega
          have HNO : Hid (∀ W, Sl W (.slice q2 m cap2) rest → Calls Tryz.prog 90 #[.slice q2 m cap2] W fun e w' => e = .returned (.tuple #[.int .i64 (nV rest), .int .i64 ((nS rest : Nat) : Int), .bool true]) ∧ w' = W) := fun W h => number_ok _ _ W h B hok
          rw [hr] at hnS
          generalize hV : nV rest = x at *
          generalize hSz : nS rest = sz at *
          clear hok
          go_upto_region 6 with (go_at_call 90; refine (HNO.out _ Sr).mono ?_; rintro e W2 ⟨rfl, rfl⟩)
          have O2 : W2.ownsRow w.heap.size 3 1 (.slice q3 k cap3) k (ints done) := by
            have := O
            unfold Io at this
            rwa [hd] at this
          go_wp2_with (first
            | (refine bs_own rfl rfl [x] (by simp only [List.map_toArray, List.map_cons, List.map_nil]; rfl) (isl1 _ _) rfl (by decide) ?_; intro V3 hN3 hb3 z3)
            | (at_builtin; refine app_i _ rfl rfl rfl (own_keep O2 hb3) rfl (own_is hN3) rfl (by show k + 1 ≤ _; omega) (ab_trans hbw hb3) ?_; intro v4 V4 hown4 hnil4 hb4 hgr4 hat4)
            | (refine slb_l' w rfl rfl sz rfl rfl rfl hnS.1 S ?_; intro q5 s5))
          refine ⟨⟨rest.drop sz, done ++ [x], s5, hbd, io_of hown4, HS.out, .inr ?_, ?_, hb4⟩, ?_⟩
          · rw [HD.out]; omega
          · rw [HD.out, HL.out]; omega
          · simp only [slLen]; omega
end Go.Proofs.YthmolbcnbcajdaaGreat
namespace Go.Proofs.YthmolbcnbcajdaaGreat
set_option maxRecDepth 100000
open Go.RowKit
set_option linter.unusedVariables false

/-- The mark of a place of a list. -/
def mk1 (k j : Nat) : Nat := (29 * k + 5 * j + 3) % 256
theorem mk1_lt (k j : Nat) : mk1 k j < 256 := Nat.mod_lt _ (by decide)
theorem mk1_cast (k j : Nat) : (29 * (k : Int) + 5 * (j : Int) + 3) % 256 = ((mk1 k j : Nat) : Int) := by unfold mk1; omega
/-- A list's marks. -/
def mrk (k : Nat) : Nat → List Nat
  | 0 => []
  | n + 1 => mrk k n ++ [mk1 k n]
theorem mrk_len (k n : Nat) : (mrk k n).length = n := by
  induction n with
  | zero => rfl
  | succ n ih => simp [mrk, ih]
theorem mrk_at (k n j : Nat) (h : j < n) : (mrk k n)[j]? = some (mk1 k j) := by
  induction n with
  | zero => omega
  | succ n ih =>
    rw [mrk]
    by_cases c : j < n
    · rw [List.getElem?_append_left (by rw [mrk_len]; exact c)]; exact ih c
    · have e : j = n := by omega
      subst e
      rw [List.getElem?_append_right (by rw [mrk_len]; exact Nat.le_refl _), mrk_len]; simp
theorem mrk_take (k n m : Nat) (h : m ≤ n) : (mrk k n).take m = mrk k m := by
  apply List.ext_getElem?
  intro j
  by_cases c : j < m
  · rw [List.getElem?_take_of_lt c, mrk_at k n j (by omega), mrk_at k m j c]
  · rw [List.getElem?_eq_none (by rw [List.length_take, mrk_len]; omega), List.getElem?_eq_none (by rw [mrk_len]; omega)]
/-- A list whose first places are marked. -/
def mix (k j : Nat) (l : List Nat) : List Nat := mrk k j ++ l.drop j
theorem mix_zero (k : Nat) (l : List Nat) : mix k 0 l = l := by simp [mix, mrk]
theorem mix_full (k : Nat) (l : List Nat) : mix k l.length l = mrk k l.length := by simp [mix]
theorem mix_len (k j : Nat) (l : List Nat) (h : j ≤ l.length) : (mix k j l).length = l.length := by
  unfold mix
  rw [List.length_append, mrk_len, List.length_drop]
  omega
theorem mix_set (k j : Nat) (l : List Nat) (h : j < l.length) : (mix k j l).set j (mk1 k j) = mix k (j + 1) l := by
  unfold mix
  rw [List.set_append_right _ _ (by rw [mrk_len]; exact Nat.le_refl _), mrk_len, Nat.sub_self, List.drop_eq_getElem_cons h, List.set_cons_zero, mrk, List.append_assoc]
  rfl
/-- Slices kept where another block grows. -/
theorem sl_kept {W W' : World} {v x : Value} {l : List Nat} (h : Sl W v l) (hs : Sep v x) (hg : W.grownBy W' x.ownBlock) : Sl W' v l := by
  obtain ⟨q, cap, rfl, h1, h2, h3⟩ := h
  refine ⟨q, cap, rfl, h1, h2, fun h0 => ?_⟩
  obtain ⟨g, off, rfl, hgl, hr⟩ := h3 h0
  refine ⟨g, off, rfl, Nat.lt_of_lt_of_le hgl hg.size, fun j y hy => ?_⟩
  exact hg.cell (hr j y hy) (fun e => hs g rfl e.symm)
/-- The beginning of an own slice. -/
theorem sl_pre {W : World} {base g n cap : Nat} {v : Value} {k m : Nat} (hv : Ow W base v (mrk k m)) (hb : v.ownBlock = some g) (hn : n ≤ m) (hc : n ≤ cap) (hm : cap ≤ maxLen) : Sl W (.slice (some ⟨g, 0, none⟩) n cap) (mrk k n) := by
  refine sl_of (mrk_len k n) hc hm (fun _ => rfl) (fun _ => (hv.lt g hb).2) (fun j x hx => ?_)
  have hj : j < n := by have := (List.getElem?_eq_some_iff.1 hx).1; rwa [mrk_len] at this
  rw [mrk_at k n j hj] at hx
  have := World.ownsRow.cells hv hb j (.int .u8 ((x : Nat) : Int)) (by rw [bys_at, mrk_at k m j (by omega), hx]; rfl)
  rwa [Addr.add_mid] at this
/-- The shape of an own slice. -/
def Shp (v : Value) (n : Nat) : Prop := v = .slice none 0 0 ∧ n = 0 ∨ ∃ g cap, v = .slice (some ⟨g, 0, none⟩) n cap ∧ n ≤ cap ∧ cap ≤ maxLen
theorem Ow.shp {W : World} {base : Nat} {v : Value} {l : List Nat} (h : Ow W base v l) : Shp v l.length := by
  rcases h.2 with ⟨h1, h2⟩ | ⟨g, cap, cur, h1, _, _, h2, h3, _⟩
  · exact .inl ⟨h1, h2⟩
  · exact .inr ⟨g, cap, h1, h2, h3⟩
/-- append of bytes: where it moves, all that was there stays. -/
theorem app_run2 {w : World} (A : World) (ty : TypeId) {v vx : Value} {n k : Nat} {l m : List Nat} (hown : w.ownsRow A.heap.size 5 1 v n (bys l)) (hsl : Sl w vx m) (hm : m.length = k) (h63 : n + k ≤ 1000000) (hA : Below A.heap.size A w) :
    ∃ v' w', (Builtin.append_ #[68, 68] ty #[v, vx]).run Tryz.prog w = .ok v' w' ∧ w'.ownsRow A.heap.size 5 1 v' (n + k) (bys (l ++ m)) ∧ Below A.heap.size A w' ∧ w.grownBy w' v.ownBlock ∧ (v'.ownBlock = v.ownBlock ∨ v'.ownBlock = some w.heap.size ∧ w.grownBy w' none) := by
  obtain ⟨v', w', hr, h1, h2, h3, h4, h5⟩ := app_run A ty hown hsl hm h63 hA
  refine ⟨v', w', hr, h1, h3, h4, ?_⟩
  rcases h5 with h5 | h5
  · exact .inl h5
  · rcases hown.2 with ⟨rfl, _⟩ | ⟨g, cap, cur, rfl, hbg, hg, hnc, hcm, hcs, htake⟩
    · exact .inr ⟨h5, h4⟩
    · obtain ⟨i, hi, hz0, hz1, hz2⟩ := info_parts infoByte
      subst hm
      obtain ⟨q, c, rfl, hq, hsrc⟩ := hsl.src
      by_cases hroom : n + m.length ≤ cap
      · left
        cases q with
        | none =>
          have h0 := hq rfl
          have hm0 : m = [] := List.eq_nil_of_length_eq_zero h0
          subst hm0
          have := append_none (P := Tryz.prog) w A.heap.size 68 ty 5 i 1 c Tryz.underlying68 hi _ n (bys l) hown
          rw [show ([] : List Nat).length = 0 from rfl, this] at hr
          cases hr
          rfl
        | some ad =>
          have := run_append_room (P := Tryz.prog) w 68 ty 5 i Tryz.underlying68 hi g n cap cur hg ad m.length c (bys m) (by rw [bys_len, hz1, Nat.mul_one]) (hsrc ad rfl) (bys_one m) hroom (by rw [bys_len, hz1, hcs]; omega)
          rw [this] at hr
          cases hr
          rfl
      · right
        cases q with
        | none =>
          have h0 := hq rfl
          omega
        | some ad =>
          have := run_append_grow (P := Tryz.prog) w 68 ty 5 i _ Tryz.underlying68 hi hz0 ⟨g, 0, none⟩ n cap (bys l) (by rw [hz1]; exact hown.1) (World.ownsRow.cells hown (g := g) rfl) ad m.length c (bys m) (by rw [bys_len, hz1, Nat.mul_one]) (hsrc ad rfl) (by omega) (by omega) (growslice_fits (by omega) (by rw [hz2]; omega))
          rw [this] at hr
          cases hr
          exact ⟨rfl, ⟨rfl, rfl, rfl, by simp, fun b hb _ => heap_alloc_old w.drew _ hb⟩⟩
section
variable {ops : Array Oper} {rest : List Oper} {o : Oper} {a : Act} {w : World} {Q : Exit → Act → World → Prop}
theorem app_by2 (A : World) (hw : Region.wanted o (yielded ops a.tmps) = true) {s x : Operand} (ho : o.op = .call { callee := .builtin .append, args := #[s, x], argTypes := #[68, 68] })
    {v vx : Value} {n k : Nat} {l m : List Nat} (hs : a.eval s = v) (hown : w.ownsRow A.heap.size 5 1 v n (bys l)) (hx : a.eval x = vx) (hsl : Sl w vx m) (hm : m.length = k) (h63 : n + k ≤ 1000000) (hA : Below A.heap.size A w)
    (h : ∀ v' w', w'.ownsRow A.heap.size 5 1 v' (n + k) (bys (l ++ m)) → Below A.heap.size A w' → w.grownBy w' v.ownBlock → (v'.ownBlock = v.ownBlock ∨ v'.ownBlock = some w.heap.size ∧ w.grownBy w' none) → wpList Tryz.prog ops Q rest (a.put o.dst v') w') : wpList Tryz.prog ops Q (o :: rest) a w := by
  unfold wpList
  rw [if_pos hw]
  left
  obtain ⟨v', w', hr, h1, h2, h3, h4⟩ := app_run2 A o.type hown hsl hm h63 hA
  unfold Oper.wp execOp
  simp only [ho, resolve, invoke, builtin, Sem.run_bind, Sem.run_pure, Result.andThen_ok, List.map_toArray, List.map_cons, List.map_nil, hs, hx, hr]
  exact h v' w' h1 h2 h3 h4
end
/-- Lists V, the first k of which have been grown to U; y holds these; gv holds V. From o on V are still as they were. -/
structure Gr (W : World) (base : Nat) (gv y : Value) (n o k : Nat) (V U : Nat → Value) (len : Nat → Nat) : Prop where
  own : ∀ j, o ≤ j → j < n → Ow W base (V j) (mrk j (len j))
  rd : ∀ j, j < o → j < n → Sl W (V j) (mrk j (len j))
  grw : ∀ j, j < k → Ow W base (U j) (mrk j (len j + 10))
  lt : ∀ j, j < n → ∀ b, (V j).ownBlock = some b → b < W.heap.size
  vv : ∀ i j, i < n → j < n → i ≠ j → Sep (V i) (V j)
  uv : ∀ i j, i < k → j < n → i ≠ j → Sep (U i) (V j)
  uu : ∀ i j, i < k → j < k → i ≠ j → Sep (U i) (U j)
  yv : ∀ j, j < n → Sep y (V j)
  yu : ∀ j, j < k → Sep y (U j)
  gw : ∀ j, j < n → Sep gv (V j)
  gu : ∀ j, j < k → Sep gv (U j)
  gy : Sep gv y
theorem Gr.keep {W W' : World} {base : Nat} {gv y : Value} {n o k : Nat} {V U : Nat → Value} {len : Nat → Nat} (h : Gr W base gv y n o k V U len) (hb : Below W.heap.size W W') : Gr W' base gv y n o k V U len :=
  ⟨fun j h1 h2 => (h.own j h1 h2).keep hb, fun j h1 h2 => (h.rd j h1 h2).keep hb, fun j h1 => (h.grw j h1).keep hb, fun j h1 b hb2 => Nat.lt_of_lt_of_le (h.lt j h1 b hb2) hb.size, h.vv, h.uv, h.uu, h.yv, h.yu, h.gw, h.gu, h.gy⟩
/-- A list is read from now on. -/
theorem Gr.next {W : World} {base : Nat} {gv y : Value} {n o k : Nat} {V U : Nat → Value} {len : Nat → Nat} (h : Gr W base gv y n o k V U len) : Gr W base gv y n (o + 1) k V U len :=
  ⟨fun j h1 h2 => h.own j (by omega) h2, fun j h1 h2 => by
    by_cases c : j < o
    · exact h.rd j c h2
    · exact (h.own j (by omega) h2).sl, h.grw, h.lt, h.vv, h.uv, h.uu, h.yv, h.yu, h.gw, h.gu, h.gy⟩
/-- A block of none of them grows. -/
structure Apt (gv y x : Value) (n k c : Nat) (V U : Nat → Value) : Prop where
  v : ∀ j, j < n → j ≠ c → Sep (V j) x
  u : ∀ j, j < k → Sep (U j) x
  y : Sep y x
  g : Sep gv x
theorem Gr.kept {W W' : World} {base : Nat} {gv y x : Value} {n k : Nat} {V U : Nat → Value} {len : Nat → Nat} (h : Gr W base gv y n (k + 1) k V U len) (hx : Apt gv y x n k k V U) (hg : W.grownBy W' x.ownBlock) (hr : k < n → Sl W' (V k) (mrk k (len k))) : Gr W' base gv y n (k + 1) k V U len :=
  ⟨fun j h1 h2 => (h.own j h1 h2).kept hg (hx.v j h2 (by omega)), fun j h1 h2 => by
    by_cases c : j = k
    · subst c; exact hr h2
    · exact sl_kept (h.rd j h1 h2) (hx.v j h2 c) hg, fun j h1 => (h.grw j h1).kept hg (hx.u j h1), fun j h1 b hb2 => Nat.lt_of_lt_of_le (h.lt j h1 b hb2) hg.size, h.vv, h.uv, h.uu, h.yv, h.yu, h.gw, h.gu, h.gy⟩
theorem Apt.at {W : World} {base : Nat} {gv y x x' : Value} {n o k c : Nat} {V U : Nat → Value} {len : Nat → Nat} (h : Apt gv y x n k c V U) (hG : Gr W base gv y n o k V U len) (hy : ∀ b, y.ownBlock = some b → b < W.heap.size) (hg : ∀ b, gv.ownBlock = some b → b < W.heap.size) (hat : x'.ownBlock = x.ownBlock ∨ x'.ownBlock = some W.heap.size) : Apt gv y x' n k c V U :=
  ⟨fun j h1 h2 => sep_at (h.v j h1 h2) (hG.lt j h1) hat, fun j h1 => sep_at (h.u j h1) (fun b hb => ((hG.grw j h1).lt b hb).2) hat, sep_at h.y hy hat, sep_at h.g hg hat⟩
/-- A list that has been grown is put with the others. -/
theorem Gr.put {W W' : World} {base : Nat} {gv y y' x : Value} {n k : Nat} {V U : Nat → Value} {len : Nat → Nat} (h : Gr W base gv y n (k + 1) k V U len) (hx : Apt gv y x n k k V U) (hO : Ow W base x (mrk k (len k + 10))) (hg : W.grownBy W' y.ownBlock) (hat : y'.ownBlock = y.ownBlock ∨ y'.ownBlock = some W.heap.size)
    (hgv : ∀ b, gv.ownBlock = some b → b < W.heap.size) : Gr W' base gv y' n (k + 1) (k + 1) V (fun j => if j = k then x else U j) len := by
  have hU : ∀ j, j < k + 1 → (j = k ∧ (if j = k then x else U j) = x) ∨ (j < k ∧ (if j = k then x else U j) = U j) := fun j hj => by
    by_cases c : j = k
    · exact .inl ⟨c, by rw [if_pos c]⟩
    · exact .inr ⟨by omega, by rw [if_neg c]⟩
  refine ⟨fun j h1 h2 => (h.own j h1 h2).kept hg (h.yv j h2).symm, fun j h1 h2 => sl_kept (h.rd j h1 h2) (h.yv j h2).symm hg, fun j h1 => ?_, fun j h1 b hb2 => Nat.lt_of_lt_of_le (h.lt j h1 b hb2) hg.size, h.vv, fun i j h1 h2 h3 => ?_, fun i j h1 h2 h3 => ?_, fun j h1 => (sep_at (h.yv j h1).symm (h.lt j h1) hat).symm, fun j h1 => ?_, h.gw, fun j h1 => ?_, sep_at h.gy hgv hat⟩
  · show Ow W' base (if j = k then x else U j) (mrk j (len j + 10))
    rcases hU j h1 with ⟨e, e2⟩ | ⟨e, e2⟩
    · rw [e2, e]; exact hO.kept hg hx.y.symm
    · rw [e2]; exact (h.grw j e).kept hg (h.yu j e).symm
  · show Sep (if i = k then x else U i) (V j)
    rcases hU i h1 with ⟨e, e2⟩ | ⟨e, e2⟩
    · rw [e2]; exact (hx.v j h2 (by omega)).symm
    · rw [e2]; exact h.uv i j e h2 h3
  · show Sep (if i = k then x else U i) (if j = k then x else U j)
    rcases hU i h1 with ⟨e, e2⟩ | ⟨e, e2⟩ <;> rcases hU j h2 with ⟨f, f2⟩ | ⟨f, f2⟩
    · omega
    · rw [e2, f2]; exact (hx.u j f).symm
    · rw [e2, f2]; exact hx.u i e
    · rw [e2, f2]; exact h.uu i j e f h3
  · show Sep y' (if j = k then x else U j)
    rcases hU j h1 with ⟨e, e2⟩ | ⟨e, e2⟩
    · rw [e2]; exact (sep_at hx.y.symm (fun b hb => (hO.lt b hb).2) hat).symm
    · rw [e2]; exact (sep_at (h.yu j e).symm (fun b hb => ((h.grw j e).lt b hb).2) hat).symm
  · show Sep gv (if j = k then x else U j)
    rcases hU j h1 with ⟨e, e2⟩ | ⟨e, e2⟩
    · rw [e2]; exact hx.g
    · rw [e2]; exact h.gu j e
end Go.Proofs.YthmolbcnbcajdaaGreat
namespace Go.Proofs.YthmolbcnbcajdaaGreat
set_option maxRecDepth 100000
open Go.RowKit
set_option linter.unusedVariables false

/-- Lists of their own, and the row that holds them. -/
structure Bg (W : World) (base gl off n : Nat) (V : Nat → Value) (c : Nat → List Nat) : Prop where
  own : ∀ j, j < n → Ow W base (V j) (c j)
  row : ∀ j, j < n → W.cell? ⟨gl, off + j, none⟩ = some (V j)
theorem Bg.same {W : World} {base gl off n : Nat} {V : Nat → Value} {c d : Nat → List Nat} (h : Bg W base gl off n V c) (he : ∀ j, j < n → c j = d j) : Bg W base gl off n V d :=
  ⟨fun j hj => by rw [← he j hj]; exact h.own j hj, h.row⟩
/-- The first k marked; of the k-th the first t places. -/
def cI (C : Nat → List Nat) (k t j : Nat) : List Nat := if j < k then mrk j (C j).length else if j = k then mix k t (C k) else C j
theorem cI_next (C : Nat → List Nat) (k j : Nat) : cI C k (C k).length j = cI C (k + 1) 0 j := by
  unfold cI
  by_cases c : j < k
  · rw [if_pos c, if_pos (by omega)]
  · by_cases d : j = k
    · subst d
      rw [if_neg c, if_pos rfl, if_pos (by omega), mix_full]
    · rw [if_neg c, if_neg d, if_neg (by omega)]
      by_cases e : j = k + 1
      · subst e; rw [if_pos rfl, mix_zero]
      · rw [if_neg e]
theorem Bg.store {W : World} {base gl off n k t g cap : Nat} {V : Nat → Value} {C : Nat → List Nat} (h : Bg W base gl off n V (cI C k t)) (hk : k < n) (ht : t < (C k).length) (hv : V k = .slice (some ⟨g, 0, none⟩) (C k).length cap) (hs : ∀ i, i < n → i ≠ k → Sep (V i) (V k)) (hg : gl ≠ g) :
    Bg (W.setCell ⟨g, t, none⟩ (.int .u8 ((mk1 k t : Nat) : Int))) base gl off n V (cI C k (t + 1)) := by
  have hO := h.own k hk
  have e : cI C k t k = mix k t (C k) := by unfold cI; rw [if_neg (by omega), if_pos rfl]
  rw [e, hv] at hO
  have hO2 : W.ownsRow base 5 1 (.slice (some ⟨g, 0, none⟩) (C k).length cap) (C k).length (bys (mix k t (C k))) := by
    unfold Ow at hO
    rwa [mix_len k t (C k) (by omega)] at hO
  obtain ⟨h1, h2⟩ := hO2.stored t (.int .u8 ((mk1 k t : Nat) : Int))
  rw [bys_set, mix_set k t (C k) ht] at h1
  refine ⟨fun j hj => ?_, fun j hj => h2.cell (h.row j hj) (fun e => hg (by simpa using e))⟩
  by_cases c : j = k
  · subst c
    have e2 : cI C j (t + 1) j = mix j (t + 1) (C j) := by unfold cI; rw [if_neg (by omega), if_pos rfl]
    rw [e2, hv]
    exact ow_of h1
  · have e2 : cI C k (t + 1) j = cI C k t j := by unfold cI; rw [if_neg c, if_neg c]
    rw [e2]
    have hsj := hs j hj c
    rw [hv] at hsj
    exact (h.own j hj).kept (x := .slice (some ⟨g, 0, none⟩) (C k).length cap) h2 hsj
theorem bsl0 (w : World) : (Instr.buildSlice 56 0 #[]).run Tryz.prog w = .ok (.slice (some ⟨w.heap.size, 0, none⟩) 0 0) (w.alloc (.cells #[] 68)) := by kernel_rfl
section
variable {ops : Array Oper} {rest : List Oper} {o : Oper} {a : Act} {w : World} {Q : Exit → Act → World → Prop}
/-- '[][]byte{}'. -/
theorem bs_l0 (A : World) (hA : A.heap.size ≤ w.heap.size) (hw : Region.wanted o (yielded ops a.tmps) = true) (ho : o.op = .buildSlice 56 0 #[])
    (h : ∀ W', W'.ownsRow A.heap.size 68 1 (.slice (some ⟨w.heap.size, 0, none⟩) 0 0) 0 [] → Below w.heap.size w W' → wpList Tryz.prog ops Q rest (a.put o.dst (.slice (some ⟨w.heap.size, 0, none⟩) 0 0)) W') : wpList Tryz.prog ops Q (o :: rest) a w := by
  unfold wpList
  rw [if_pos hw]
  left
  unfold Oper.wp execOp
  have hl : (#[] : Array (Nat × Operand)).map (fun (i, x) => (i, a.eval x)) = #[] := by simp
  simp only [ho, Sem.run_bind, hl, bsl0, Result.andThen_ok]
  exact h _ (own_empty w A 68 1 hA) ((Below.refl _ _).alloc (Nat.le_refl _) _)
end
/-- What was read is read, where the list that grew out of it grows on. -/
theorem rd_step {W W' : World} {base k m t : Nat} {v x x' : Value} (hs : Shp v m) (hv : Sl W v (mrk k m)) (hO : Ow W' base x' (mrk k (m + t))) (hg : W.grownBy W' x.ownBlock) (hat : x'.ownBlock = x.ownBlock ∨ x'.ownBlock = some W.heap.size ∧ W.grownBy W' none) : Sl W' v (mrk k m) := by
  rcases hs with ⟨rfl, rfl⟩ | ⟨g, cap, rfl, hc, hm⟩
  · exact sl_nil W'
  · by_cases c : x.ownBlock = some g
    · rcases hat with e | ⟨_, e⟩
      · exact sl_pre hO (e.trans c) (by omega) hc hm
      · exact sl_kept (x := .slice none 0 0) hv (fun b hb he => by cases he) e
    · refine sl_kept (x := x) hv (fun b hb he => ?_) hg
      simp [Value.ownBlock] at hb
      exact c (by rw [he, hb])

/-- How long a slice is. -/
def slLen2 : Value → Nat
  | .slice _ n _ => n
  | _ => 0
end Go.Proofs.YthmolbcnbcajdaaGreat
namespace Go.Proofs.YthmolbcnbcajdaaGreat
set_option maxRecDepth 100000
open Go.RowKit
set_option linter.unusedVariables false

/-- A copy: its bytes, and two marks behind them. -/
def Cp (W : World) (base : Nat) (v : Value) (l : List Nat) : Prop := ∃ g cap, v = .slice (some ⟨g, 0, none⟩) l.length cap ∧ W.ownsRow base 5 1 (.slice (some ⟨g, 0, none⟩) (l.length + 2) cap) (l.length + 2) (bys (l ++ [165, 90]))
theorem Cp.keep {W W' : World} {base : Nat} {v : Value} {l : List Nat} (h : Cp W base v l) (hb : Below W.heap.size W W') : Cp W' base v l := by
  obtain ⟨g, cap, rfl, h1⟩ := h
  exact ⟨g, cap, rfl, own_keep h1 hb⟩
theorem own_pre {W : World} {base g n m cap : Nat} {xs : List Value} (h : W.ownsRow base 5 1 (.slice (some ⟨g, 0, none⟩) n cap) n xs) (hm : m ≤ n) : W.ownsRow base 5 1 (.slice (some ⟨g, 0, none⟩) m cap) m (xs.take m) := by
  obtain ⟨h1, h2⟩ := h
  refine ⟨by rw [List.length_take]; omega, .inr ?_⟩
  rcases h2 with ⟨h2, _⟩ | ⟨g', cap', cur, e, hb, hg, hnc, hcm, hcs, ht⟩
  · cases h2
  · cases e
    refine ⟨g, cap, cur, rfl, hb, hg, by omega, hcm, hcs, ?_⟩
    rw [← ht, List.take_take]
    congr 1
    omega
theorem Cp.ow {W : World} {base : Nat} {v : Value} {l : List Nat} (h : Cp W base v l) : Ow W base v l := by
  obtain ⟨g, cap, rfl, h1⟩ := h
  have := own_pre h1 (Nat.le_add_right l.length 2)
  have e : (bys (l ++ [165, 90])).take l.length = bys l := by
    rw [← bys_append, ← bys_len l, List.take_left]
  rw [e] at this
  exact this
end Go.Proofs.YthmolbcnbcajdaaGreat
namespace Go.Proofs.YthmolbcnbcajdaaGreat
set_option maxRecDepth 100000
open Go.RowKit
set_option linter.unusedVariables false

def u8s (zs : List Int) : List Value := zs.map fun z => Value.int .u8 z
theorem u8s_set (l : List Int) (j : Nat) (x : Int) : (u8s l).set j (.int .u8 x) = u8s (l.set j x) := by simp [u8s, List.map_set]
theorem bys_u8s (l : List Nat) : bys l = u8s (l.map fun x => ((x : Nat) : Int)) := by simp [bys, u8s]
end Go.Proofs.YthmolbcnbcajdaaGreat
namespace Go.Proofs.YthmolbcnbcajdaaGreat
set_option maxRecDepth 100000
open Go.RowKit
set_option linter.unusedVariables false

theorem leB_cons (j u : Nat) (hu : u < 256 ^ j) (h0 : u ≠ 0) : ∃ k, j = k + 1 ∧ leB j u = u % 256 :: leB k (u / 256) ∧ u / 256 < 256 ^ k := by
  cases j with
  | zero => exact absurd (by simpa using hu) h0
  | succ k =>
    refine ⟨k, rfl, ?_, by rw [Nat.pow_succ] at hu; omega⟩
    rw [leB, if_neg h0]
theorem leB_zero (j : Nat) : leB j 0 = [] := by cases j <;> simp [leB]
/-- How a number is written: what is done, and what is left. -/
structure Wr (u : Nat) (l : List Nat) (rem : Nat) : Prop where
  len : l.length ≤ 8
  lt : rem < 256 ^ (8 - l.length)
  all : l ++ leB (8 - l.length) rem = leB 8 u
theorem Wr.start {u : Nat} (hu : u < 18446744073709551616) : Wr u [] u := ⟨by simp, by simpa using hu, by simp⟩
theorem Wr.step {u : Nat} {l : List Nat} {rem : Nat} (h : Wr u l rem) (h0 : rem ≠ 0) : Wr u (l ++ [rem % 256]) (rem / 256) := by
  obtain ⟨k, e, e2, e3⟩ := leB_cons (8 - l.length) rem h.lt h0
  have hl : (l ++ [rem % 256]).length = l.length + 1 := by simp
  have hk : 8 - (l ++ [rem % 256]).length = k := by rw [hl]; omega
  refine ⟨by rw [hl]; omega, by rw [hk]; exact e3, ?_⟩
  rw [hk, ← h.all, e2, List.append_assoc]
  rfl
theorem Wr.end {u : Nat} {l : List Nat} (h : Wr u l 0) : l = leB 8 u := by
  have := h.all
  rwa [leB_zero, List.append_nil] at this
theorem val_drop (l : List Nat) (i x : Nat) (h : l[i]? = some x) : val (l.drop i) = x + 256 * val (l.drop (i + 1)) := by
  obtain ⟨hi, e⟩ := List.getElem?_eq_some_iff.1 h
  rw [List.drop_eq_getElem_cons hi, val, e]
theorem val_drop_lt (l : List Nat) (hb : Byt l) (h8 : l.length ≤ 8) (i : Nat) : val (l.drop i) < 18446744073709551616 := by
  have h := val_lt (l.drop i) (hb.drop i)
  have hl : (l.drop i).length ≤ 8 := by rw [List.length_drop]; omega
  have := Nat.pow_le_pow_right (n := 256) (by decide) hl
  omega
theorem unz_even (u : Nat) (h : u % 2 = 0) : unz u = ((u / 2 : Nat) : Int) := by unfold unz; rw [if_neg (by omega)]
theorem unz_odd (u : Nat) (h : u % 2 = 1) : unz u = -((u / 2 : Nat) : Int) - 1 := by unfold unz; rw [if_pos h]
end Go.Proofs.YthmolbcnbcajdaaGreat
namespace Go.Proofs.YthmolbcnbcajdaaGreat
open Go.RowKit
set_option linter.unusedVariables false
set_option maxRecDepth 100000

theorem ls_own {W : World} {b n : Nat} {v : Value} {vs : List Value} {ls : List (List Nat)} (ho : W.ownsRow b 68 1 v n vs) (hlen : vs.length = ls.length) (hE : ∀ (j : Nat) (x : Value) (l : List Nat), vs[j]? = some x → ls[j]? = some l → Sl W x l) : Ls W v vs ls := by
  obtain ⟨h1, q, g, cap, rfl, hp, hg, _, _, hc, hm, hr, _⟩ := own_open ho (by omega)
  rw [Nat.mul_one] at h1
  subst h1
  exact ⟨hlen, ⟨q, cap, rfl, hc, hm, fun h0 => ⟨g, 0, hp h0, hg h0, fun j x hx => by rw [Nat.zero_add]; exact hr j x hx⟩⟩, hE⟩
theorem ls_src {W : World} {v : Value} {vs : List Value} {ls : List (List Nat)} (h : Ls W v vs ls) : ∃ q cap, v = .slice q ls.length cap ∧ (q = none → ls.length = 0) ∧ (∀ ad, q = some ad → ∀ j u, vs[j]? = some u → W.cell? (ad.add j) = some u) ∧ ∀ u ∈ vs, u.oneCell' = true := by
  obtain ⟨q, cap, g, off, e, h1, h2, h3, h4, h5⟩ := h.open
  refine ⟨q, cap, e, fun hq => ?_, fun ad ha j u hu => ?_, fun u hu => ?_⟩
  · apply Classical.byContradiction
    intro h0
    have := h3 (by omega)
    rw [hq] at this
    cases this
  · have h0 : 0 < ls.length := by have := (List.getElem?_eq_some_iff.1 hu).1; rw [h.len] at this; omega
    have := h3 h0
    rw [ha] at this
    cases this
    rw [Addr.add_mid]
    exact h5 j u hu
  · obtain ⟨j, hj⟩ := List.getElem?_of_mem hu
    have hjl : j < ls.length := by have := (List.getElem?_eq_some_iff.1 hj).1; rwa [h.len] at this
    obtain ⟨a, b, c, rfl⟩ := (h.each j u _ hj (List.getElem?_eq_getElem hjl)).slice
    rfl
/-- append of a list of bytes onto an own one: its run. -/
theorem app_runL {w : World} (base : Nat) (ty : TypeId) {v vx : Value} {n k : Nat} {xs vs : List Value} {ls : List (List Nat)} (hown : w.ownsRow base 68 1 v n xs) (hsl : Ls w vx vs ls) (hm : ls.length = k) (h63 : n + k ≤ 5864062014805) (hA : base ≤ w.heap.size) :
    ∃ v' w', (Builtin.append_ #[56, 56] ty #[v, vx]).run Tryz.prog w = .ok v' w' ∧ w'.ownsRow base 68 1 v' (n + k) (xs ++ vs) ∧ w.grownBy w' v.ownBlock ∧ (v'.ownBlock = v.ownBlock ∨ v'.ownBlock = some w.heap.size) := by
  obtain ⟨i, hi, hz0, hz1, hz2⟩ := info_parts infoBytes
  subst hm
  obtain ⟨q, cap, rfl, hq, hsrc, hone⟩ := ls_src hsl
  cases q with
  | none =>
    have h0 := hq rfl
    have hv0 : vs = [] := List.eq_nil_of_length_eq_zero (by rw [hsl.len]; exact h0)
    subst hv0
    rw [h0]
    exact ⟨v, w, append_none (P := Tryz.prog) w base 56 ty 68 i 1 cap Tryz.underlying56 hi v n xs hown, by simpa using hown, ⟨rfl, rfl, rfl, Nat.le_refl _, fun _ _ _ => rfl⟩, .inl rfl⟩
  | some ad =>
    obtain ⟨v', w', hr, h2, h3, h4, h5⟩ := run_append_own_at (P := Tryz.prog) w base 56 ty 68 i _ 1 24 Tryz.underlying56 hi hz0 hz1 hz2 rfl (by omega) v n xs hown ad ls.length cap vs (by rw [Nat.mul_one]; exact hsl.len) (hsrc ad rfl) hone (by unfold maxLen; omega) (by omega) hA
    exact ⟨v', w', hr, h2, h3, h5⟩
theorem own_newL (w : World) (xs : List Value) (n : Nat) (hn : xs.length = n) (hm : n ≤ maxLen) : (w.alloc (.cells xs.toArray 68)).ownsRow w.heap.size 68 1 (.slice (some ⟨w.heap.size, 0, none⟩) n n) n xs := by
  refine ⟨by rw [hn, Nat.mul_one], .inr ⟨w.heap.size, n, xs.toArray, rfl, Nat.le_refl _, ?_, Nat.le_refl _, hm, ?_, ?_⟩⟩
  · show (w.heap.push _)[w.heap.size]? = _; simp
  · simp [hn]
  · rw [Nat.mul_one, ← hn]; simp
section
variable {o : Oper} {a : Act} {w : World} {K : Act → World → Prop} {Q : Exit → Act → World → Prop}
theorem lst0W (d : Option Tmp) (hd : o.dst = d) (ho : o.op = .buildSlice 56 0 #[]) (h : ∀ v' W', W'.ownsRow w.heap.size 68 1 v' 0 [] → Below w.heap.size w W' → K (a.put d v') W') : o.wp Tryz.prog a w K Q := by
  subst hd
  have hrun : (Instr.buildSlice 56 0 #[]).run Tryz.prog w = .ok (.slice (some ⟨w.heap.size, 0, none⟩) 0 0) (w.alloc (.cells #[] 68)) := by kernel_rfl
  unfold Oper.wp execOp
  simp only [ho, Sem.run_bind, List.map_toArray, List.map_nil, hrun, Result.andThen_ok]
  exact h _ _ (own_newL w [] 0 rfl (by decide)) ((Below.refl _ _).alloc (Nat.le_refl _) _)
theorem lst1W (d : Option Tmp) (hd : o.dst = d) {x : Operand} (ho : o.op = .buildSlice 56 1 #[(0, x)]) {q : Option Addr} {n c : Nat} (hx : a.eval x = .slice q n c) (h : ∀ v' W', W'.ownsRow w.heap.size 68 1 v' 1 [.slice q n c] → Below w.heap.size w W' → K (a.put d v') W') : o.wp Tryz.prog a w K Q := by
  subst hd
  have hrun := bsl1 q n c w
  unfold Oper.wp execOp
  simp only [ho, Sem.run_bind, List.map_toArray, List.map_cons, List.map_nil, hx, hrun, Result.andThen_ok]
  exact h _ _ (own_newL w [.slice q n c] 1 rfl (by decide)) ((Below.refl _ _).alloc (Nat.le_refl _) _)
theorem appLW (base : Nat) (d : Option Tmp) (hd : o.dst = d) {s x : Operand} (ho : o.op = .call { callee := .builtin .append, args := #[s, x], argTypes := #[56, 56] })
    {v vx : Value} {n k : Nat} {xs vs : List Value} {ls : List (List Nat)} (hs : a.eval s = v) (hown : w.ownsRow base 68 1 v n xs) (hx : a.eval x = vx) (hsl : Ls w vx vs ls) (hm : ls.length = k) (h63 : n + k ≤ 5864062014805) (hA : base ≤ w.heap.size)
    (h : ∀ v' w', w'.ownsRow base 68 1 v' (n + k) (xs ++ vs) → w.grownBy w' v.ownBlock → K (a.put d v') w') : o.wp Tryz.prog a w K Q := by
  subst hd
  obtain ⟨v', w', hr, h1, h2, h3⟩ := app_runL base o.type hown hsl hm h63 hA
  unfold Oper.wp execOp
  simp only [ho, resolve, invoke, builtin, Sem.run_bind, Sem.run_pure, Result.andThen_ok, List.map_toArray, List.map_cons, List.map_nil, hs, hx, hr]
  exact h v' w' h1 h2
end
end Go.Proofs.YthmolbcnbcajdaaGreat
