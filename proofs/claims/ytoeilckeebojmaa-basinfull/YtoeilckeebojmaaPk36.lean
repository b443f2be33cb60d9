/-
  Basins in memory: their map of cells by name, their streams and bases.
  Basins in memory; the small functions of basin.
  Basin's calls that only read: Next, Mark, Base, Cell, past; lift.
-/
import Derived.Test.YtoeilckeebojmaaPk35
import Derived.Test.YtoeilckeebojmaaPk27
import Derived.Test.YtoeilckeebojmaaPk15
import Derived.Test.YtoeilckeebojmaaPk24
import Derived.Maps.OwnSet
import Derived.Maps.OwnOps
import Derived.Maps.RangeWalk
import Derived.DeepKeys4
import Derived.Test.YtoeilckeebojmaaPk06
import Derived.Test.YtoeilckeebojmaaPk29
import Derived.Test.YtoeilckeebojmaaPk18
namespace Go.Proofs.Ytoeilckeebojmaa
open Go.RowKit Go.Maps
set_option linter.unusedVariables false
set_option maxRecDepth 100000

/-- How a map's element reads: as itself. -/
def hldV (v : Value) : Option (DataW Value × List MemPlace) := some (.held v, [])
def kyV (k : Kyy) : Value := .agg #[.int .i64 k.1, .int .i64 k.2.1, .int .i64 k.2.2]
def kyL (k : Kyy) : Lit := .string (keyBytes [.int .i64 k.1, .int .i64 k.2.1, .int .i64 k.2.2])
theorem laid16 : laidOutB Try.prog = true := by kernel_rfl
theorem row16 : (47 : TypeId) < Try.prog.types.size := of_decide_eq_true (by kernel_rfl)
theorem wide16 : (match Try.prog.underlying 47 with | some (.array _ _) | some (.struct _) => true | _ => false) = true := by kernel_rfl
theorem keyed16 : Keyed Try.prog 47 := Keyed.of_law (deep_law_laid laid16 (m := 3) (by omega) row16 (by kernel_rfl) wide16)
theorem lits_int (n : Nat) (x : Value) : Try.prog.keyLits (n + 1) 3 [x] = match x with | .int .i64 a => if (Lit.int .i64 a).wf = true then some [.int .i64 a] else none | _ => none := by
  unfold Program.keyLits
  rw [Try.underlying3]
  cases x with
  | int q a => cases q <;> simp
  | _ => simp
theorem cells_int16 : Try.prog.cellsOf 3 = 1 := by kernel_rfl
theorem cells_pl16 : Try.prog.cellsOf 38 = 2 := by kernel_rfl
theorem cells_id16 : Try.prog.cellsOf 47 = 3 := by kernel_rfl
theorem lits_pl (n : Nat) (x y : Value) : Try.prog.keyLits (n + 1 + 1) 38 [x, y] = (do let a ← Try.prog.keyLits (n + 1) 3 [x]; let b ← Try.prog.keyLits (n + 1) 3 [y]; pure (a ++ b)) := by
  conv => lhs; unfold Program.keyLits
  rw [Try.underlying38]
  simp [cells_int16, cells_pl16]
  cases Try.prog.keyLits (n + 1) 3 [x] <;> cases Try.prog.keyLits (n + 1) 3 [y] <;> simp
theorem lits_id (n : Nat) (x y z : Value) : Try.prog.keyLits (n + 1 + 1 + 1) 47 [x, y, z] = (do let a ← Try.prog.keyLits (n + 1 + 1) 3 [x]; let b ← Try.prog.keyLits (n + 1 + 1) 38 [y, z]; pure (a ++ b)) := by
  conv => lhs; unfold Program.keyLits
  rw [Try.underlying47]
  simp [cells_int16, cells_pl16, cells_id16]
  cases Try.prog.keyLits (n + 1 + 1) 3 [x] <;> cases Try.prog.keyLits (n + 1 + 1) 38 [y, z] <;> simp
theorem size16 : ∃ n, Try.prog.types.size + 1 = n + 1 + 1 + 1 := ⟨Try.prog.types.size - 2, by have : 2 ≤ Try.prog.types.size := of_decide_eq_true (by kernel_rfl); omega⟩
theorem j64_wf {a : Int} (h : J64 a) : (Lit.int .i64 a).wf = true := WalkArith.wf_i64 (by unfold J64 at h; omega)
theorem wf_j64 {a : Int} (h : (Lit.int .i64 a).wf = true) : J64 a := bounds_i64 h
theorem key16 {k : Kyy} (h : KyOk k) : keyOf Try.prog 47 (kyV k) = some (kyL k) := by
  obtain ⟨n, hn⟩ := size16
  obtain ⟨h1, h2, h3⟩ := h
  have hk : Try.prog.keyType 47 = true := by kernel_rfl
  have hf : (kyV k).formed Try.prog 47 = true := by simp [kyV, Value.formed, Try.underlying47, cells_id16]
  have hl : Try.prog.keyLits (Try.prog.types.size + 1) 47 (kyV k).cells.toList = some [.int .i64 k.1, .int .i64 k.2.1, .int .i64 k.2.2] := by
    rw [hn]
    show Try.prog.keyLits (n + 1 + 1 + 1) 47 [.int .i64 k.1, .int .i64 k.2.1, .int .i64 k.2.2] = _
    rw [lits_id, lits_pl, lits_int, lits_int, lits_int]
    simp [j64_wf h1, j64_wf h2, j64_wf h3]
  unfold keyOf
  rw [Try.underlying47]
  simp only [hk, hf, hl]
  rfl
theorem ky_inv {v : Value} {l : Lit} (h : keyOf Try.prog 47 v = some l) : ∃ k, KyOk k ∧ v = kyV k := by
  have h0 := h
  obtain ⟨xs, L, rfl, h1, -⟩ := keyOf_top wide16 h
  obtain ⟨n, hn⟩ := size16
  have hsz : xs.size = 3 := by
    unfold keyOf at h0
    rw [Try.underlying47] at h0
    simp only at h0
    split at h0
    · rename_i hf
      have := (Bool.and_eq_true_iff.1 hf).2
      simpa [Value.formed, Try.underlying47, cells_id16] using this
    · cases h0
  obtain ⟨xl⟩ := xs
  match xl, hsz with
  | [x, y, z], _ =>
    rw [hn] at h1
    have h2 : Try.prog.keyLits (n + 1 + 1 + 1) 47 [x, y, z] = some L := h1
    rw [lits_id, lits_pl, lits_int, lits_int, lits_int] at h2
    have key : ∀ u : Value, (match u with | .int .i64 a => if (Lit.int .i64 a).wf = true then some [Lit.int .i64 a] else none | _ => none) = none ∨ ∃ a, J64 a ∧ u = .int .i64 a := by
      intro u
      split
      · rename_i a
        by_cases hw : (Lit.int .i64 a).wf = true
        · exact .inr ⟨a, wf_j64 hw, rfl⟩
        · exact .inl (if_neg hw)
      · exact .inl rfl
    rcases key x with e | ⟨a, ha, rfl⟩
    · rw [e] at h2; cases h2
    rcases key y with e | ⟨b, hb, rfl⟩
    · rw [e] at h2; simp at h2
    rcases key z with e | ⟨c, hc, rfl⟩
    · rw [e] at h2; simp at h2
    exact ⟨(a, b, c), ⟨ha, hb, hc⟩, rfl⟩
theorem kyL_inj {a b : Kyy} (ha : KyOk a) (hb : KyOk b) (h : kyL a = kyL b) : a = b := by
  have := keyed16.inj (key16 ha) (h ▸ key16 hb)
  unfold kyV at this
  obtain ⟨a1, a2, a3⟩ := a
  obtain ⟨b1, b2, b3⟩ := b
  simpa using this
theorem kyL_ne {a b : Kyy} (ha : KyOk a) (hb : KyOk b) (h : a ≠ b) : kyL a ≠ kyL b := fun e => h (kyL_inj ha hb e)
theorem kyL_key (k : Kyy) : WideAt.IsKeyLit (kyL k) := trivial

/-- A map as read: its names, its cells. -/
structure Dm (D : DataW Value) (ks : List Kyy) (cv : Kyy → Nat → Int) : Prop where
  sz : Maps.size D = ks.length
  hs : ∀ k, KyOk k → Maps.has D (kyL k) = decide (k ∈ ks)
  cl : ∀ k ∈ ks, ∀ z, D.atKey (kyL k) z = .held (.agg (CA (cv k)))
  nd : ks.Nodup
  ok : ∀ k ∈ ks, KyOk k
/-- A map of cells in memory. -/
def Cm (W : World) (m : Nat) (ks : List Kyy) (cv : Kyy → Nat → Int) : Prop := ∃ D : DataW Value, W.ownsMap Try.prog 47 hldV m (Maps.size D) D ∧ Dm D ks cv
theorem tight16 {w : World} {b n : Nat} {D : DataW Value} (h : w.ownsMap Try.prog 47 hldV b n D) : w.ownsMap Try.prog 47 hldV b (Maps.size D) D := by
  obtain ⟨es, clock, hb, F, hs, hD⟩ := h
  refine ⟨es, clock, hb, F, ?_, hD⟩
  rw [hD]
  simp [Maps.size, length_sorted]
theorem Cm.lt {W : World} {m : Nat} {ks : List Kyy} {cv : Kyy → Nat → Int} (h : Cm W m ks cv) : m < W.heap.size := by obtain ⟨D, h1, -⟩ := h; exact h1.lt
theorem Cm.noKind {W : World} {m : Nat} {ks : List Kyy} {cv : Kyy → Nat → Int} (h : Cm W m ks cv) (t : TypeId) : ¬ kindR W m t := by
  obtain ⟨D, ⟨es, clock, hb, _⟩, -⟩ := h
  rintro ⟨cur, fr, e⟩
  rw [hb] at e
  cases e
theorem Cm.at {W W' : World} {m : Nat} {ks : List Kyy} {cv : Kyy → Nat → Int} (h : Cm W m ks cv) (he : W'.heap[m]? = W.heap[m]?) : Cm W' m ks cv := by
  obtain ⟨D, ⟨es, clock, hb, F, hs, hD⟩, h2⟩ := h
  exact ⟨D, ⟨es, clock, he.trans hb, F, hs, hD⟩, h2⟩
theorem Cm.frm {X : Nat → Prop} {W W' : World} {m : Nat} {ks : List Kyy} {cv : Kyy → Nat → Int} (h : Cm W m ks cv) (hf : Frm X W W') (hm : ¬ X m) : Cm W' m ks cv := h.at (hf.other m h.lt hm)
theorem Cm.keep {W W' : World} {m : Nat} {ks : List Kyy} {cv : Kyy → Nat → Int} (h : Cm W m ks cv) (hb : Below W.heap.size W W') : Cm W' m ks cv := h.at (hb.block m h.lt)
theorem cm_new (w : World) (cv : Kyy → Nat → Int) : Cm (w.alloc (.map #[] 0)) w.heap.size [] cv :=
  ⟨.map [], World.ownsMap_made w _ _ _, ⟨rfl, fun k _ => rfl, fun k h => (by cases h), List.nodup_nil, fun k h => (by cases h)⟩⟩
theorem Cm.look {w : World} {m : Nat} {ks : List Kyy} {cv : Kyy → Nat → Int} {k : Kyy} (h : Cm w m ks cv) (hk : KyOk k) (hz : k ∉ ks → cv k = zc) (b : Bool) :
    (Instr.lookup 91 (.map (some m)) (kyV k) b).run Try.prog w = .ok (if b then .tuple #[.agg (CA (cv k)), .bool (decide (k ∈ ks))] else .agg (CA (cv k))) w := by
  obtain ⟨D, ⟨es, clock, hb, F, _, hD⟩, h2⟩ := h
  have hh := h2.hs k hk
  rcases Maps.fit_look b keyed16 Try.underlying91 (zero_cell w) hb F (key16 hk) with ⟨hrun, hno, hat⟩ | ⟨e0, y, he0, hek, hrun, hRv, hat, _⟩
  · have hn : k ∉ ks := by
      intro hm
      have e1 := h2.cl k hm (.held (.int .i64 0))
      have e2 := h2.cl k hm (.held (.int .i64 1))
      rw [hD] at e1 e2
      rw [hat] at e1 e2
      rw [← e1] at e2
      cases e2
    rw [hrun, hz hn]
    simp [hn]
  · have hy : k ∈ ks := by
      have : Maps.has D (kyL k) = true := has_true_of_atKey (fun z => by rw [hD]; exact hat z)
      rw [hh] at this
      exact of_decide_eq_true this
    have e1 := h2.cl k hy (.held (.int .i64 0))
    rw [hD, hat] at e1
    have : e0.val = .agg (CA (cv k)) := by
      unfold hldV at hRv
      injection hRv with hRv
      rw [← hRv] at e1
      injection e1
    rw [hrun, this]
    simp [hy]
theorem Dm.put {D : DataW Value} {ks : List Kyy} {cv : Kyy → Nat → Int} (h : Dm D ks cv) (ht : Tidy D) {k : Kyy} (hk : KyOk k) (c : Nat → Int) : Dm (D.put (kyL k) (.held (.agg (CA c)))) (addK ks k) (fun j => if j = k then c else cv j) := by
  refine ⟨?_, fun j hj => ?_, fun j hj z => ?_, nd_addK h.nd k, fun j hj => ?_⟩
  · rw [size_put ht, h.hs k hk, addK_len, h.sz]
    by_cases e : k ∈ ks <;> simp [e]
  · by_cases e : j = k
    · subst e
      rw [has_put_same ht.isMap (kyL_key _)]
      exact (decide_eq_true (mem_addK.2 (.inr rfl))).symm
    · rw [has_put_other (kyL_ne hj hk e), h.hs j hj, decide_eq_decide, mem_addK]
      constructor
      · exact .inl
      · rintro (h' | h')
        · exact h'
        · exact absurd h' e
  · by_cases e : j = k
    · subst e
      rw [atKey_put_same ht.isMap (kyL_key _)]
      simp
    · have hj' : j ∈ ks := by rcases mem_addK.1 hj with h' | h'; exact h'; exact absurd h' e
      rw [atKey_put_other (kyL_ne (h.ok j hj') hk e), h.cl j hj']
      simp [e]
  · rcases mem_addK.1 hj with h' | rfl
    · exact h.ok j h'
    · exact hk
theorem Cm.put {w : World} {m : Nat} {ks : List Kyy} {cv : Kyy → Nat → Int} {k : Kyy} (h : Cm w m ks cv) (hk : KyOk k) (hl : ks.length ≤ 100000) (c : Nat → Int) :
    ∃ w', (Instr.mapUpdate 91 (.map (some m)) (kyV k) (.agg (CA c))).run Try.prog w = .ok () w' ∧ Cm w' m (addK ks k) (fun j => if j = k then c else cv j) ∧ w.grownBy w' (some m) := by
  obtain ⟨D, h1, h2⟩ := h
  obtain ⟨w', hup, h6, h7⟩ := h1.update (e := 54) (d := .held (.agg (CA c))) (ps := []) keyed16 Try.underlying91 (by rw [h2.sz]; unfold maxLen; omega) (key16 hk) (val := .agg (CA c)) rfl
  exact ⟨w', hup, ⟨_, tight16 h6, h2.put (h1.tidy keyed16) hk c⟩, h7⟩
theorem Cm.len {w : World} {m : Nat} {ks : List Kyy} {cv : Kyy → Nat → Int} (h : Cm w m ks cv) (ty : TypeId) : (Builtin.len_ #[91] ty #[.map (some m)]).run Try.prog w = .ok (.int .i64 ((ks.length : Nat) : Int)) w := by
  obtain ⟨D, h1, h2⟩ := h
  rw [h1.len Try.underlying91 ty, h2.sz]
theorem Dm.del {D : DataW Value} {ks : List Kyy} {cv : Kyy → Nat → Int} (h : Dm D ks cv) (ht : Tidy D) {k : Kyy} (hk : k ∈ ks) : Dm (D.del (kyL k)) (ks.filter fun j => decide (j ≠ k)) cv := by
  have hko := h.ok k hk
  refine ⟨?_, fun j hj => ?_, fun j hj z => ?_, h.nd.filter _, fun j hj => h.ok j (List.mem_filter.1 hj).1⟩
  · have h1 := size_del (k := kyL k) ht
    rw [h.hs k hko, decide_eq_true hk, h.sz] at h1
    have h2 : (ks.filter fun j => decide (j ≠ k)).length + 1 = ks.length := by
      have := List.length_eq_countP_add_countP (fun j => decide (j ≠ k)) (l := ks)
      rw [List.countP_eq_length_filter] at this
      have h3 : ks.countP (fun a => !decide (a ≠ k)) = 1 := by
        have e : (fun a => !decide (a ≠ k)) = fun a : Kyy => a == k := by
          funext a
          by_cases e : a = k <;> simp [e]
        rw [e]
        exact h.nd.count.trans (if_pos hk)
      have h4 : ks.countP (fun a => decide ¬ (decide (a ≠ k) = true)) = ks.countP (fun a => !decide (a ≠ k)) := by
        congr 1
        funext a
        by_cases e : a = k <;> simp [e]
      omega
    simp at h1
    omega
  · by_cases e : j = k
    · subst e
      rw [has_del_same]
      symm
      apply decide_eq_false
      intro hm
      simp [List.mem_filter] at hm
    · rw [has_del_other (kyL_ne hj hko e), h.hs j hj, decide_eq_decide]
      simp [List.mem_filter, e]
  · obtain ⟨h1, h2⟩ := List.mem_filter.1 hj
    have e : j ≠ k := of_decide_eq_true h2
    rw [atKey_del_other (kyL_ne (h.ok j h1) hko e)]
    exact h.cl j h1 z
end Go.Proofs.Ytoeilckeebojmaa
namespace Go.Proofs.Ytoeilckeebojmaa
open Go.RowKit Go.Maps
set_option linter.unusedVariables false
set_option maxRecDepth 100000

def flA (f : Flw) : Array Value := #[.int .i64 f.nx, .int .i64 f.mt, .bool f.md]
def E3f : En Flw := ⟨3, fun f => (flA f).toList, fun _ => rfl, fun x u hu => by simp [flA] at hu; rcases hu with rfl | rfl | rfl <;> rfl, by omega⟩
/-- Where a basin lies: its block, its map, its streams, its bases, its resolutions. -/
structure Bkk where
  b : Nat
  m : Nat
  gf : Nat
  cf : Nat
  gb : Nat
  cb : Nat
  vr : Value
def bsC (K : Bkk) (sh mo : Int) (nf nb : Nat) : Array Value := #[K.vr, .int .i64 sh, .int .i64 mo, .slice (some ⟨K.gf, 0, none⟩) nf K.cf, .slice (some ⟨K.gb, 0, none⟩) nb K.cb, .map (some K.m)]
/-- A basin in memory. -/
structure Bq (W : World) (B : Nat) (K : Bkk) (S : Bsn) : Prop where
  blk : Blk W K.b (bsC K S.sh S.mo S.fl.length S.ba.length) 93
  ge : B ≤ K.b
  re : Io W B K.vr S.res
  fe : Rw E3f 89 W K.gf K.cf S.fl
  gef : B ≤ K.gf
  be : Rw E2 38 W K.gb K.cb S.ba
  geb : B ≤ K.gb
  ce : Cm W K.m S.ks S.cv
  gem : B ≤ K.m
  ok : Okb S
/-- Its blocks that turn. -/
def bkB (K : Bkk) (k : Nat) : Prop := k = K.gf ∨ k = K.gb ∨ k = K.m
theorem rw_kind {α : Type} {E : En α} {e : TypeId} {W : World} {g cap : Nat} {L : List α} (h : Rw E e W g cap L) : kindR W g e := by
  obtain ⟨_, _, cur, hB, _⟩ := h
  exact hB.kindR
theorem rw_at {α : Type} {E : En α} {e : TypeId} {W W' : World} {g cap : Nat} {L : List α} (h : Rw E e W g cap L) (he : W'.heap[g]? = W.heap[g]?) : Rw E e W' g cap L := by
  obtain ⟨h1, h2, cur, hB, h3, h4⟩ := h
  exact ⟨h1, h2, cur, by unfold Blk; rw [he]; exact hB, h3, h4⟩
theorem Bq.noI {W : World} {B : Nat} {K : Bkk} {S : Bsn} (h : Bq W B K S) : NoI (bkB K) W := by
  rintro k (e | e | e) hi
  · subst e; exact absurd ((rw_kind h.fe).uniq hi) (by decide)
  · subst e; exact absurd ((rw_kind h.be).uniq hi) (by decide)
  · subst e; exact h.ce.noKind _ hi
theorem Bq.noB {W : World} {B : Nat} {K : Bkk} {S : Bsn} (h : Bq W B K S) : ¬ bkB K K.b := by
  rintro (e | e | e)
  · exact absurd ((rw_kind h.fe).uniq (e ▸ h.blk.kindR)) (by decide)
  · exact absurd ((rw_kind h.be).uniq (e ▸ h.blk.kindR)) (by decide)
  · exact h.ce.noKind 93 (e ▸ h.blk.kindR)
theorem Bq.nfb {W : World} {B : Nat} {K : Bkk} {S : Bsn} (h : Bq W B K S) : K.gf ≠ K.gb := fun e => absurd ((rw_kind h.fe).uniq (e ▸ rw_kind h.be)) (by decide)
theorem Bq.nfm {W : World} {B : Nat} {K : Bkk} {S : Bsn} (h : Bq W B K S) : K.gf ≠ K.m := fun e => h.ce.noKind _ (e ▸ rw_kind h.fe)
theorem Bq.nbm {W : World} {B : Nat} {K : Bkk} {S : Bsn} (h : Bq W B K S) : K.gb ≠ K.m := fun e => h.ce.noKind _ (e ▸ rw_kind h.be)
theorem Bq.bks {W : World} {B : Nat} {K : Bkk} {S : Bsn} (h : Bq W B K S) {k : Nat} (hk : bkB K k) : B ≤ k ∧ k < W.heap.size := by
  rcases hk with rfl | rfl | rfl
  · exact ⟨h.gef, h.fe.lt⟩
  · exact ⟨h.geb, h.be.lt⟩
  · exact ⟨h.gem, h.ce.lt⟩
theorem Bq.frm {W W' : World} {B : Nat} {K : Bkk} {S : Bsn} {X : Nat → Prop} (h : Bq W B K S) (hf : Frm X W W') (hi : NoI X W) (hb : ¬ X K.b) (hx : ∀ k, bkB K k → ¬ X k) : Bq W' B K S :=
  ⟨h.blk.frm hf hb, h.ge, h.re.frm hf hi, rw_at h.fe (hf.other _ h.fe.lt (hx _ (.inl rfl))), h.gef, rw_at h.be (hf.other _ h.be.lt (hx _ (.inr (.inl rfl)))), h.geb, h.ce.frm hf (hx _ (.inr (.inr rfl))), h.gem, h.ok⟩
theorem Bq.keep {W W' : World} {B : Nat} {K : Bkk} {S : Bsn} (h : Bq W B K S) (hb : Below W.heap.size W W') : Bq W' B K S :=
  h.frm (X := fun _ => False) (frm_below hb) (fun _ h => h.elim) (fun h => h) (fun _ _ h => h)
theorem Bq.less {W : World} {B B' : Nat} {K : Bkk} {S : Bsn} (h : Bq W B K S) (hb : B' ≤ B) : Bq W B' K S :=
  ⟨h.blk, Nat.le_trans hb h.ge, h.re.less hb, h.fe, Nat.le_trans hb h.gef, h.be, Nat.le_trans hb h.geb, h.ce, Nat.le_trans hb h.gem, h.ok⟩
/-- What a basin's own blocks hold has turned. -/
theorem Bq.upd {W W' : World} {B : Nat} {K : Bkk} {S T : Bsn} (h : Bq W B K S) (hf : Frm (bkB K) W W') (h1 : T.res = S.res) (h2 : T.sh = S.sh) (h3 : T.mo = S.mo) (h4 : T.fl.length = S.fl.length) (h5 : T.ba.length = S.ba.length)
    (hfe : Rw E3f 89 W' K.gf K.cf T.fl) (hbe : Rw E2 38 W' K.gb K.cb T.ba) (hce : Cm W' K.m T.ks T.cv) (ok : Okb T) : Bq W' B K T :=
  ⟨by rw [h2, h3, h4, h5]; exact h.blk.frm hf h.noB, h.ge, by rw [h1]; exact h.re.frm hf h.noI, hfe, h.gef, hbe, h.geb, hce, h.gem, ok⟩
theorem Bq.below {W W' : World} {B : Nat} {K : Bkk} {S : Bsn} (h : Bq W B K S) (hf : Frm (bkB K) W W') (hB : B ≤ W.heap.size) : Below B W W' := hf.below hB (fun k hk => (h.bks hk).1)
/-- The cells of a basin, in every world in which nothing of it has turned. -/
theorem Bq.cells {W : World} {B : Nat} {K : Bkk} {S : Bsn} (h : Bq W B K S) : ∀ V, Below W.heap.size W V → V.cell? ⟨K.b, 0, none⟩ = some K.vr ∧ V.cell? ⟨K.b, 1, none⟩ = some (.int .i64 S.sh) ∧ V.cell? ⟨K.b, 2, none⟩ = some (.int .i64 S.mo) ∧ V.cell? ⟨K.b, 3, none⟩ = some (.slice (some ⟨K.gf, 0, none⟩) S.fl.length K.cf) ∧ V.cell? ⟨K.b, 4, none⟩ = some (.slice (some ⟨K.gb, 0, none⟩) S.ba.length K.cb) ∧ V.cell? ⟨K.b, 5, none⟩ = some (.map (some K.m)) := fun V hb =>
  ⟨(h.blk.keep hb).at rfl, (h.blk.keep hb).at rfl, (h.blk.keep hb).at rfl, (h.blk.keep hb).at rfl, (h.blk.keep hb).at rfl, (h.blk.keep hb).at rfl⟩
abbrev bptr (K : Bkk) : Value := .pointer (some ⟨K.b, 0, none⟩)

theorem bwithin_any (n m : Int) (w : World) : Calls Try.prog 28 #[.int .i64 n, .int .i64 m] w fun e w' => e = .returned (.bool (wiB n m)) ∧ w' = w := by
  by_cases c : 1 ≤ n
  · have HV : Hid (decide (n ≤ m) = wiB n m) := by show _ = _; unfold wiB; rw [decide_eq_decide]; omega
    go_enter Try.func28, Try.ntmps28
    go_wp2_with fail
    go_ret
    exact ⟨ret_bool HV.out, rfl⟩
  · have HV : Hid (false = wiB n m) := by show _ = _; symm; exact decide_eq_false (by omega)
    go_enter Try.func28, Try.ntmps28
    go_wp2_with fail
    go_ret
    exact ⟨ret_bool HV.out, rfl⟩
theorem goodR_iff {res : List Int} {sh : Int} : goodR res sh = true ↔ (∀ r ∈ res, 1 ≤ r) ∧ (1 ≤ res.length ∧ res.length ≤ 3) ∧ (1 ≤ sh ∧ sh ≤ 4) := by
  unfold goodR
  simp only [Bool.and_eq_true, decide_eq_true_eq, List.all_eq_true]
  constructor
  · rintro ⟨⟨a, b⟩, c⟩; exact ⟨a, b, c⟩
  · rintro ⟨a, b, c⟩; exact ⟨⟨a, b⟩, c⟩
theorem bgood_any (v : Value) (l : List Int) (sh : Int) (w : World) (hv : Is w v l) : Calls Try.prog 29 #[v, .int .i64 sh] w fun e w' => e = .returned (.bool (goodR l sh)) ∧ w' = w := by
  obtain ⟨q, cap, g, off, rfl, hc, hm, hp, hg, hr⟩ := hv
  generalize hn : l.length = n at *
  have hgd : ∀ k, wiB (n : Int) 3 = decide (1 ≤ l.length ∧ l.length ≤ 3) ∧ (k = 0 → k = 0) := fun k => ⟨by unfold wiB; rw [decide_eq_decide, hn]; omega, fun h => h⟩
  go_enter Try.func29, Try.ntmps29
  go_wp2_with fail
  go_loopw [9] (fun i wr => ∃ k : Nat, k ≤ n ∧ i = .int .i64 (k : Int) ∧ (∀ x ∈ l.take k, 1 ≤ x) ∧ wr = w) (fun i _ => n - (intOf i).toNat)
  case atStart => exact ⟨0, by omega, rfl, fun x hx => by simp at hx, rfl⟩
  case round =>
    obtain ⟨k, hk, rfl, hall, rfl⟩ := hrel
    by_cases c : k = n
    · subst c
      rw [List.take_of_length_le (by omega)] at hall
      have HV : Hid (goodR l sh = (wiB (k : Int) 3 && wiB sh 4)) := by
        show _ = _
        unfold goodR
        rw [(hgd 0).1, show l.all (fun r => decide (1 ≤ r)) = true by simp only [List.all_eq_true, decide_eq_true_eq]; exact hall, Bool.true_and]
        rfl
      clear hall hr hp hg hgd
      cases a1 : wiB (k : Int) 3
      · have HV' : Hid (goodR l sh = false) := by show _ = _; rw [HV.out, a1]; rfl
        go_wp2_with (go_at_call 28; refine (bwithin_any _ _ _).mono ?_; rintro e W ⟨rfl, rfl⟩; rw [a1])
        go_ret
        exact ⟨by rw [HV'.out]; rfl, rfl⟩
      · have HV' : Hid (goodR l sh = wiB sh 4) := by show _ = _; rw [HV.out, a1]; rfl
        go_wp2_with (go_at_call 28; refine (bwithin_any _ _ _).mono ?_; rintro e W ⟨rfl, rfl⟩; first | rw [a1] | skip)
        go_ret
        exact ⟨by rw [HV'.out]; rfl, rfl⟩
    · obtain ⟨x, hx⟩ : ∃ x, l[k]? = some x := ⟨l[k], List.getElem?_eq_getElem (by omega)⟩
      obtain rfl := hp (by omega)
      have y0 := hr k x hx
      have hki : (k : Int) < (n : Int) := by omega
      by_cases c1 : x < 1
      · have HV : Hid (goodR l sh = false) := by
          show _ = _
          cases hh : goodR l sh
          · rfl
          · have := (goodR_iff.1 hh).1 x (List.mem_of_getElem? hx); omega
        clear hall hr hp hg hgd hx
        go_wp2_with fail
        go_ret
        exact ⟨by rw [HV.out]; rfl, rfl⟩
      · have HA : Hid (∀ x ∈ l.take (k + 1), 1 ≤ x) := by
          intro z hz
          rw [List.take_add_one, hx] at hz
          rcases List.mem_append.1 hz with hz | hz
          · exact hall z hz
          · simp at hz; subst hz; omega
        clear hall hr hp hg hgd hx
        go_wp2_with fail
        go_roundw
        case rel => exact ⟨k + 1, by omega, by go_num, HA.out, trivial⟩
        case measure => simp [intOf]; omega
theorem blanes_any {B : Nat} {K : Bkk} {S : Bsn} (w : World) (h : Bq w B K S) : Calls Try.prog 25 #[bptr K] w fun e w' => e = .returned (.int .i64 (S.ba.length : Int)) ∧ w' = w := by
  obtain ⟨-, -, -, -, c4, -⟩ := h.cells w (Below.refl _ _)
  clear h
  generalize S.ba.length = n at *
  obtain ⟨b, m, gf, cf, gb, cb, vr⟩ := K
  try dsimp only at *
  go_enter Try.func25, Try.ntmps25
  go_wp2_with fail
  go_ret
  exact ⟨rfl, rfl⟩
theorem blanes_nil (w : World) : Calls Try.prog 25 #[.pointer none] w fun e w' => e = .returned (.int .i64 0) ∧ w' = w := by
  go_enter Try.func25, Try.ntmps25
  go_wp2_with fail
  go_ret
  exact ⟨rfl, rfl⟩
/-- len of a map, where its run is known. -/
theorem len_l {P : Program} {ops : Array Oper} {rest : List Oper} {o : Oper} {a : Act} {w : World} {Q : Exit → Act → World → Prop} (hw : Region.wanted o (yielded ops a.tmps) = true) {x : Operand} {t : TypeId} (ho : o.op = .call { callee := .builtin .len, args := #[x], argTypes := #[t] }) (v : Value) (hx : a.eval x = v) {v' : Value} {w' : World}
    (hr : ∀ ty, (Builtin.len_ #[t] ty #[v]).run P w = .ok v' w') (h : wpList P ops Q rest (a.put o.dst v') w') : wpList P ops Q (o :: rest) a w := by
  unfold wpList
  rw [if_pos hw]
  left
  unfold Oper.wp execOp
  simp only [ho, resolve, invoke, builtin, Sem.run_bind, Sem.run_pure, Result.andThen_ok, List.map_toArray, List.map_cons, List.map_nil, hx, hr]
  exact h
theorem blen_any {B : Nat} {K : Bkk} {S : Bsn} (w : World) (h : Bq w B K S) : Calls Try.prog 16 #[bptr K] w fun e w' => e = .returned (.int .i64 ((S.ks.length : Nat) : Int)) ∧ w' = w := by
  obtain ⟨-, -, -, -, -, c5⟩ := h.cells w (Below.refl _ _)
  have hl := h.ce.len
  clear h
  generalize S.ks.length = n at *
  obtain ⟨b, m, gf, cf, gb, cb, vr⟩ := K
  try dsimp only at *
  go_enter Try.func16, Try.ntmps16
  go_wp2_with (at_len; refine len_l rfl rfl _ rfl hl ?_)
  go_ret
  exact ⟨rfl, rfl⟩
theorem blen_nil (w : World) : Calls Try.prog 16 #[.pointer none] w fun e w' => e = .returned (.int .i64 0) ∧ w' = w := by
  go_enter Try.func16, Try.ntmps16
  go_wp2_with fail
  go_ret
  exact ⟨rfl, rfl⟩
def hasN (n : Int) (m : Nat) : Bool := decide (0 ≤ n ∧ n < (m : Int))
theorem bhasS_any {B : Nat} {K : Bkk} {S : Bsn} (n : Int) (w : World) (h : Bq w B K S) : Calls Try.prog 33 #[bptr K, .int .i64 n] w fun e w' => e = .returned (.bool (hasN n S.fl.length)) ∧ w' = w := by
  obtain ⟨-, -, -, c3, -, -⟩ := h.cells w (Below.refl _ _)
  clear h
  generalize S.fl.length = k at *
  obtain ⟨b, m, gf, cf, gb, cb, vr⟩ := K
  try dsimp only at *
  by_cases c : 0 ≤ n
  · have HV : Hid (decide (n < (k : Int)) = hasN n k) := by show _ = _; unfold hasN; rw [decide_eq_decide]; omega
    go_enter Try.func33, Try.ntmps33
    go_wp2_with fail
    go_ret
    exact ⟨ret_bool HV.out, rfl⟩
  · have HV : Hid (false = hasN n k) := by show _ = _; symm; exact decide_eq_false (by omega)
    go_enter Try.func33, Try.ntmps33
    go_wp2_with fail
    go_ret
    exact ⟨ret_bool HV.out, rfl⟩
theorem bhasS_nil (n : Int) (w : World) : Calls Try.prog 33 #[.pointer none, .int .i64 n] w fun e w' => e = .returned (.bool false) ∧ w' = w := by
  go_enter Try.func33, Try.ntmps33
  go_wp2_with fail
  go_ret
  exact ⟨rfl, rfl⟩
theorem bhasL_any {B : Nat} {K : Bkk} {S : Bsn} (n : Int) (w : World) (h : Bq w B K S) : Calls Try.prog 45 #[bptr K, .int .i64 n] w fun e w' => e = .returned (.bool (hasN n S.ba.length)) ∧ w' = w := by
  have HL := blanes_any w h
  clear h
  generalize S.ba.length = k at *
  obtain ⟨b, m, gf, cf, gb, cb, vr⟩ := K
  try dsimp only at *
  by_cases c : 0 ≤ n
  · have HV : Hid (decide (n < (k : Int)) = hasN n k) := by show _ = _; unfold hasN; rw [decide_eq_decide]; omega
    go_enter Try.func45, Try.ntmps45
    go_wp2_with (go_at_call 25; refine HL.mono ?_; rintro e W ⟨rfl, rfl⟩)
    go_ret
    exact ⟨ret_bool HV.out, rfl⟩
  · have HV : Hid (false = hasN n k) := by show _ = _; symm; exact decide_eq_false (by omega)
    go_enter Try.func45, Try.ntmps45
    go_wp2_with fail
    go_ret
    exact ⟨ret_bool HV.out, rfl⟩
theorem bhasL_nil (n : Int) (w : World) : Calls Try.prog 45 #[.pointer none, .int .i64 n] w fun e w' => e = .returned (.bool false) ∧ w' = w := by
  by_cases c : 0 ≤ n
  · have HV : Hid (decide (n < 0) = false) := by show _ = _; exact decide_eq_false (by omega)
    go_enter Try.func45, Try.ntmps45
    go_wp2_with (go_at_call 25; refine (blanes_nil _).mono ?_; rintro e W ⟨rfl, rfl⟩)
    go_ret
    exact ⟨by first | rfl | exact ret_bool HV.out, rfl⟩
  · go_enter Try.func45, Try.ntmps45
    go_wp2_with fail
    go_ret
    exact ⟨rfl, rfl⟩
end Go.Proofs.Ytoeilckeebojmaa
namespace Go.Proofs.Ytoeilckeebojmaa
open Go.RowKit Go.Maps
set_option linter.unusedVariables false
set_option maxRecDepth 100000

theorem hasN_no {n : Int} {m : Nat} (h : hasN n m = true) : ∃ i : Nat, n = (i : Int) ∧ i < m := by
  have := of_decide_eq_true h
  exact ⟨n.toNat, by omega, by omega⟩
theorem bnext_at {B : Nat} {K : Bkk} {S : Bsn} (i : Nat) (f : Flw) (w : World) (h : Bq w B K S) (hi : S.fl[i]? = some f) : Calls Try.prog 12 #[bptr K, .int .i64 (i : Int)] w fun e w' => e = .returned (.int .i64 f.nx) ∧ w' = w := by
  obtain ⟨-, -, -, c3, -, -⟩ := h.cells w (Below.refl _ _)
  have hl := (List.getElem?_eq_some_iff.1 hi).1
  have HS := bhasS_any (i : Int) w h
  have hh : hasN (i : Int) S.fl.length = true := decide_eq_true (by omega)
  have z0 : w.cell? ⟨K.gf, i * 3, none⟩ = some (.int .i64 f.nx) := h.fe.cell (i := 0) hi rfl
  have hli : (i : Int) < (S.fl.length : Int) := by omega
  rw [hh] at HS
  clear h hi hh
  generalize S.fl.length = n at *
  obtain ⟨b, m, gf, cf, gb, cb, vr⟩ := K
  try dsimp only at *
  go_enter Try.func12, Try.ntmps12
  go_wp2_with (go_at_call 33; refine HS.mono ?_; rintro e W ⟨rfl, rfl⟩)
  go_ret
  exact ⟨rfl, rfl⟩
theorem bnext_no {B : Nat} {K : Bkk} {S : Bsn} (n : Int) (w : World) (h : Bq w B K S) (hn : hasN n S.fl.length = false) : Calls Try.prog 12 #[bptr K, .int .i64 n] w fun e w' => e = .returned (.int .i64 0) ∧ w' = w := by
  have HS := bhasS_any n w h
  rw [hn] at HS
  clear h hn
  obtain ⟨b, m, gf, cf, gb, cb, vr⟩ := K
  try dsimp only at *
  go_enter Try.func12, Try.ntmps12
  go_wp2_with (go_at_call 33; refine HS.mono ?_; rintro e W ⟨rfl, rfl⟩)
  go_ret
  exact ⟨rfl, rfl⟩
theorem bnext_nil (n : Int) (w : World) : Calls Try.prog 12 #[.pointer none, .int .i64 n] w fun e w' => e = .returned (.int .i64 0) ∧ w' = w := by
  go_enter Try.func12, Try.ntmps12
  go_wp2_with (go_at_call 33; refine (bhasS_nil _ _).mono ?_; rintro e W ⟨rfl, rfl⟩)
  go_ret
  exact ⟨rfl, rfl⟩
/-- What Next answers. -/
def nxN (S : Bsn) (n : Int) : Int := if hasN n S.fl.length = true then nxOf S n.toNat else 0
theorem banext_any {B : Nat} {K : Bkk} {S : Bsn} (n : Int) (w : World) (h : Bq w B K S) : Calls Try.prog 12 #[bptr K, .int .i64 n] w fun e w' => e = .returned (.int .i64 (nxN S n)) ∧ w' = w := by
  cases hh : hasN n S.fl.length
  · have : nxN S n = 0 := by unfold nxN; rw [hh]; rfl
    rw [this]
    exact bnext_no n w h hh
  · obtain ⟨i, rfl, hi⟩ := hasN_no hh
    have : nxN S (i : Int) = (S.fl[i]'hi).nx := by unfold nxN nxOf; rw [hh, if_pos rfl, Int.toNat_natCast, List.getElem?_eq_getElem hi]
    rw [this]
    exact bnext_at i _ w h (List.getElem?_eq_getElem hi)
theorem nxN_J {S : Bsn} (h : Okb S) (n : Int) : J64 (nxN S n) := by
  unfold nxN nxOf
  split
  · split
    · rename_i f hf
      exact (h.ff f (List.mem_of_getElem? hf)).1
    · unfold J64; omega
  · unfold J64; omega
theorem bmark_no {B : Nat} {K : Bkk} {S : Bsn} (n : Int) (w : World) (h : Bq w B K S) (hn : hasN n S.fl.length = false) : Calls Try.prog 23 #[bptr K, .int .i64 n] w fun e w' => e = .returned (.tuple #[.int .i64 0, .bool false]) ∧ w' = w := by
  have HS := bhasS_any n w h
  rw [hn] at HS
  clear h hn
  obtain ⟨b, m, gf, cf, gb, cb, vr⟩ := K
  try dsimp only at *
  go_enter Try.func23, Try.ntmps23
  go_wp2_with (go_at_call 33; refine HS.mono ?_; rintro e W ⟨rfl, rfl⟩)
  go_ret2
  exact ⟨rfl, rfl⟩
theorem bmark_nil (n : Int) (w : World) : Calls Try.prog 23 #[.pointer none, .int .i64 n] w fun e w' => e = .returned (.tuple #[.int .i64 0, .bool false]) ∧ w' = w := by
  go_enter Try.func23, Try.ntmps23
  go_wp2_with (go_at_call 33; refine (bhasS_nil _ _).mono ?_; rintro e W ⟨rfl, rfl⟩)
  go_ret2
  exact ⟨rfl, rfl⟩
theorem bbase_at {B : Nat} {K : Bkk} {S : Bsn} (i : Nat) (p : Int × Int) (w : World) (h : Bq w B K S) (hi : S.ba[i]? = some p) : Calls Try.prog 21 #[bptr K, .int .i64 (i : Int)] w fun e w' => e = .returned (Plc p.1 p.2) ∧ Below w.heap.size w w' := by
  obtain ⟨A, hE, hX, hw⟩ := blk1 w #[.int .i64 0, .int .i64 0] 38
  have hA := h.keep hw
  obtain ⟨-, -, -, -, c4, -⟩ := hA.cells A (Below.refl _ _)
  have hl := (List.getElem?_eq_some_iff.1 hi).1
  have HS := bhasL_any (i : Int) A hA
  have hh : hasN (i : Int) S.ba.length = true := decide_eq_true (by omega)
  have z0 : A.cell? ⟨K.gb, i * 2, none⟩ = some (.int .i64 p.1) := hA.be.cell (i := 0) hi rfl
  have z1 : A.cell? ⟨K.gb, i * 2 + 1, none⟩ = some (.int .i64 p.2) := hA.be.cell (i := 1) hi rfl
  have hli : (i : Int) < (S.ba.length : Int) := by omega
  rw [hh] at HS
  clear h hi hh hA
  generalize S.ba.length = n at *
  obtain ⟨b, m, gf, cf, gb, cb, vr⟩ := K
  obtain ⟨p0, p1⟩ := p
  try dsimp only at *
  go_enter Try.func21, Try.ntmps21
  go_upto_region 1 with fail
  go_upto_region 3 with (go_at_call 45; refine HS.mono ?_; rintro e W ⟨rfl, rfl⟩)
  clear hE
  go_wp2_with (refine st_blk rfl rfl hX rfl rfl info_plc rfl (by simp [Value.oneCell']) ?_; intro W2 hX2 C2)
  exact bodyPost_ret (results_cell_row rfl _ _ _ 38 _ (0, 0) _ rfl hX2 Try.underlying38 rfl info_plc) rfl ⟨rfl, ab_chg hw C2 (Nat.le_refl _)⟩
end Go.Proofs.Ytoeilckeebojmaa
