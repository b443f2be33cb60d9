/-
  Basins in memory: their map of cells by name, their streams and bases.
  Basins in memory; the small functions of basin.
  Basin's calls that only read: Next, Mark, Base, Cell, past; lift.
  Basin's past, lift, Cell.
  Basin's drop: the cells ahead of their lanes' bases are gone.
  slices.IndexFunc and slices.DeleteFunc of names at basin's past.
  Basin's Cell and missing.
  Basin's missing; a flow's punctuate.
-/
import Derived.Test.YtfnageillhpjpaaPk39
import Derived.Test.YtfnageillhpjpaaPk26
import Derived.Test.YtfnageillhpjpaaPk17
import Derived.Test.YtfnageillhpjpaaPk24
import Derived.Maps.OwnSet
import Derived.Maps.OwnOps
import Derived.Maps.RangeWalk
import Derived.DeepKeys4
import Derived.Test.YtfnageillhpjpaaPk07
import Derived.Test.YtfnageillhpjpaaPk28
import Derived.Test.YtfnageillhpjpaaPk20
namespace Go.Proofs.Ytfnageillhpjpaa
open Go.RowKit Go.Maps
set_option linter.unusedVariables false
set_option maxRecDepth 100000

/-- How a map's element reads: as itself. -/
def hldV (v : Value) : Option (DataW Value × List MemPlace) := some (.held v, [])
def kyV (k : Kyy) : Value := .agg #[.int .i64 k.1, .int .i64 k.2.1, .int .i64 k.2.2]
def kyL (k : Kyy) : Lit := .string (keyBytes [.int .i64 k.1, .int .i64 k.2.1, .int .i64 k.2.2])
theorem laid16 : laidOutB Try.prog = true := by kernel_rfl
theorem row16 : (47 : TypeId) < Try.prog.types.size := of_decide_eq_true (by kernel_rfl)
theorem wide16 : (match Try.prog.underlying 47 with | some (.array _ _) | some (.struct _) => true | _ => false) = true := by kernel_rfl
theorem keyed16 : Keyed Try.prog 47 := Keyed.of_law (deep_law_laid laid16 (m := 3) (by omega) row16 (by kernel_rfl) wide16)
theorem lits_int (n : Nat) (x : Value) : Try.prog.keyLits (n + 1) 3 [x] = match x with | .int .i64 a => if (Lit.int .i64 a).wf = true then some [.int .i64 a] else none | _ => none := by
  unfold Program.keyLits
  rw [Try.underlying3]
  cases x with
  | int q a => cases q <;> simp
  | _ => simp
theorem cells_int16 : Try.prog.cellsOf 3 = 1 := by kernel_rfl
theorem cells_pl16 : Try.prog.cellsOf 38 = 2 := by kernel_rfl
theorem cells_id16 : Try.prog.cellsOf 47 = 3 := by kernel_rfl
theorem lits_pl (n : Nat) (x y : Value) : Try.prog.keyLits (n + 1 + 1) 38 [x, y] = (do let a ← Try.prog.keyLits (n + 1) 3 [x]; let b ← Try.prog.keyLits (n + 1) 3 [y]; pure (a ++ b)) := by
  conv => lhs; unfold Program.keyLits
  rw [Try.underlying38]
  simp [cells_int16, cells_pl16]
  cases Try.prog.keyLits (n + 1) 3 [x] <;> cases Try.prog.keyLits (n + 1) 3 [y] <;> simp
theorem lits_id (n : Nat) (x y z : Value) : Try.prog.keyLits (n + 1 + 1 + 1) 47 [x, y, z] = (do let a ← Try.prog.keyLits (n + 1 + 1) 3 [x]; let b ← Try.prog.keyLits (n + 1 + 1) 38 [y, z]; pure (a ++ b)) := by
  conv => lhs; unfold Program.keyLits
  rw [Try.underlying47]
  simp [cells_int16, cells_pl16, cells_id16]
  cases Try.prog.keyLits (n + 1 + 1) 3 [x] <;> cases Try.prog.keyLits (n + 1 + 1) 38 [y, z] <;> simp
theorem size16 : ∃ n, Try.prog.types.size + 1 = n + 1 + 1 + 1 := ⟨Try.prog.types.size - 2, by have : 2 ≤ Try.prog.types.size := of_decide_eq_true (by kernel_rfl); omega⟩
theorem j64_wf {a : Int} (h : J64 a) : (Lit.int .i64 a).wf = true := WalkArith.wf_i64 (by unfold J64 at h; omega)
theorem wf_j64 {a : Int} (h : (Lit.int .i64 a).wf = true) : J64 a := bounds_i64 h
theorem key16 {k : Kyy} (h : KyOk k) : keyOf Try.prog 47 (kyV k) = some (kyL k) := by
  obtain ⟨n, hn⟩ := size16
  obtain ⟨h1, h2, h3⟩ := h
  have hk : Try.prog.keyType 47 = true := by kernel_rfl
  have hf : (kyV k).formed Try.prog 47 = true := by simp [kyV, Value.formed, Try.underlying47, cells_id16]
  have hl : Try.prog.keyLits (Try.prog.types.size + 1) 47 (kyV k).cells.toList = some [.int .i64 k.1, .int .i64 k.2.1, .int .i64 k.2.2] := by
    rw [hn]
    show Try.prog.keyLits (n + 1 + 1 + 1) 47 [.int .i64 k.1, .int .i64 k.2.1, .int .i64 k.2.2] = _
    rw [lits_id, lits_pl, lits_int, lits_int, lits_int]
    simp [j64_wf h1, j64_wf h2, j64_wf h3]
  unfold keyOf
  rw [Try.underlying47]
  simp only [hk, hf, hl]
  rfl
theorem ky_inv {v : Value} {l : Lit} (h : keyOf Try.prog 47 v = some l) : ∃ k, KyOk k ∧ v = kyV k := by
  have h0 := h
  obtain ⟨xs, L, rfl, h1, -⟩ := keyOf_top wide16 h
  obtain ⟨n, hn⟩ := size16
  have hsz : xs.size = 3 := by
    unfold keyOf at h0
    rw [Try.underlying47] at h0
    simp only at h0
    split at h0
    · rename_i hf
      have := (Bool.and_eq_true_iff.1 hf).2
      simpa [Value.formed, Try.underlying47, cells_id16] using this
    · cases h0
  obtain ⟨xl⟩ := xs
  match xl, hsz with
  | [x, y, z], _ =>
    rw [hn] at h1
    have h2 : Try.prog.keyLits (n + 1 + 1 + 1) 47 [x, y, z] = some L := h1
    rw [lits_id, lits_pl, lits_int, lits_int, lits_int] at h2
    have key : ∀ u : Value, (match u with | .int .i64 a => if (Lit.int .i64 a).wf = true then some [Lit.int .i64 a] else none | _ => none) = none ∨ ∃ a, J64 a ∧ u = .int .i64 a := by
      intro u
      split
      · rename_i a
        by_cases hw : (Lit.int .i64 a).wf = true
        · exact .inr ⟨a, wf_j64 hw, rfl⟩
        · exact .inl (if_neg hw)
      · exact .inl rfl
    rcases key x with e | ⟨a, ha, rfl⟩
    · rw [e] at h2; cases h2
    rcases key y with e | ⟨b, hb, rfl⟩
    · rw [e] at h2; simp at h2
    rcases key z with e | ⟨c, hc, rfl⟩
    · rw [e] at h2; simp at h2
    exact ⟨(a, b, c), ⟨ha, hb, hc⟩, rfl⟩
theorem kyL_inj {a b : Kyy} (ha : KyOk a) (hb : KyOk b) (h : kyL a = kyL b) : a = b := by
  have := keyed16.inj (key16 ha) (h ▸ key16 hb)
  unfold kyV at this
  obtain ⟨a1, a2, a3⟩ := a
  obtain ⟨b1, b2, b3⟩ := b
  simpa using this
theorem kyL_ne {a b : Kyy} (ha : KyOk a) (hb : KyOk b) (h : a ≠ b) : kyL a ≠ kyL b := fun e => h (kyL_inj ha hb e)
theorem kyL_key (k : Kyy) : WideAt.IsKeyLit (kyL k) := trivial

/-- A map as read: its names, its cells. -/
structure Dm (D : DataW Value) (ks : List Kyy) (cv : Kyy → Nat → Int) : Prop where
  sz : Maps.size D = ks.length
  hs : ∀ k, KyOk k → Maps.has D (kyL k) = decide (k ∈ ks)
  cl : ∀ k ∈ ks, ∀ z, D.atKey (kyL k) z = .held (.agg (CA (cv k)))
  nd : ks.Nodup
  ok : ∀ k ∈ ks, KyOk k
/-- A map of cells in memory. -/
def Cm (W : World) (m : Nat) (ks : List Kyy) (cv : Kyy → Nat → Int) : Prop := ∃ D : DataW Value, W.ownsMap Try.prog 47 hldV m (Maps.size D) D ∧ Dm D ks cv
theorem tight16 {w : World} {b n : Nat} {D : DataW Value} (h : w.ownsMap Try.prog 47 hldV b n D) : w.ownsMap Try.prog 47 hldV b (Maps.size D) D := by
  obtain ⟨es, clock, hb, F, hs, hD⟩ := h
  refine ⟨es, clock, hb, F, ?_, hD⟩
  rw [hD]
  simp [Maps.size, length_sorted]
theorem Cm.lt {W : World} {m : Nat} {ks : List Kyy} {cv : Kyy → Nat → Int} (h : Cm W m ks cv) : m < W.heap.size := by obtain ⟨D, h1, -⟩ := h; exact h1.lt
theorem Cm.noKind {W : World} {m : Nat} {ks : List Kyy} {cv : Kyy → Nat → Int} (h : Cm W m ks cv) (t : TypeId) : ¬ kindR W m t := by
  obtain ⟨D, ⟨es, clock, hb, _⟩, -⟩ := h
  rintro ⟨cur, fr, e⟩
  rw [hb] at e
  cases e
theorem Cm.at {W W' : World} {m : Nat} {ks : List Kyy} {cv : Kyy → Nat → Int} (h : Cm W m ks cv) (he : W'.heap[m]? = W.heap[m]?) : Cm W' m ks cv := by
  obtain ⟨D, ⟨es, clock, hb, F, hs, hD⟩, h2⟩ := h
  exact ⟨D, ⟨es, clock, he.trans hb, F, hs, hD⟩, h2⟩
theorem Cm.frm {X : Nat → Prop} {W W' : World} {m : Nat} {ks : List Kyy} {cv : Kyy → Nat → Int} (h : Cm W m ks cv) (hf : Frm X W W') (hm : ¬ X m) : Cm W' m ks cv := h.at (hf.other m h.lt hm)
theorem Cm.keep {W W' : World} {m : Nat} {ks : List Kyy} {cv : Kyy → Nat → Int} (h : Cm W m ks cv) (hb : Below W.heap.size W W') : Cm W' m ks cv := h.at (hb.block m h.lt)
theorem cm_new (w : World) (cv : Kyy → Nat → Int) : Cm (w.alloc (.map #[] 0)) w.heap.size [] cv :=
  ⟨.map [], World.ownsMap_made w _ _ _, ⟨rfl, fun k _ => rfl, fun k h => (by cases h), List.nodup_nil, fun k h => (by cases h)⟩⟩
theorem Cm.look {w : World} {m : Nat} {ks : List Kyy} {cv : Kyy → Nat → Int} {k : Kyy} (h : Cm w m ks cv) (hk : KyOk k) (hz : k ∉ ks → cv k = zc) (b : Bool) :
    (Instr.lookup 73 (.map (some m)) (kyV k) b).run Try.prog w = .ok (if b then .tuple #[.agg (CA (cv k)), .bool (decide (k ∈ ks))] else .agg (CA (cv k))) w := by
  obtain ⟨D, ⟨es, clock, hb, F, _, hD⟩, h2⟩ := h
  have hh := h2.hs k hk
  rcases Maps.fit_look b keyed16 Try.underlying73 (zero_cell w) hb F (key16 hk) with ⟨hrun, hno, hat⟩ | ⟨e0, y, he0, hek, hrun, hRv, hat, _⟩
  · have hn : k ∉ ks := by
      intro hm
      have e1 := h2.cl k hm (.held (.int .i64 0))
      have e2 := h2.cl k hm (.held (.int .i64 1))
      rw [hD] at e1 e2
      rw [hat] at e1 e2
      rw [← e1] at e2
      cases e2
    rw [hrun, hz hn]
    simp [hn]
  · have hy : k ∈ ks := by
      have : Maps.has D (kyL k) = true := has_true_of_atKey (fun z => by rw [hD]; exact hat z)
      rw [hh] at this
      exact of_decide_eq_true this
    have e1 := h2.cl k hy (.held (.int .i64 0))
    rw [hD, hat] at e1
    have : e0.val = .agg (CA (cv k)) := by
      unfold hldV at hRv
      injection hRv with hRv
      rw [← hRv] at e1
      injection e1
    rw [hrun, this]
    simp [hy]
theorem Dm.put {D : DataW Value} {ks : List Kyy} {cv : Kyy → Nat → Int} (h : Dm D ks cv) (ht : Tidy D) {k : Kyy} (hk : KyOk k) (c : Nat → Int) : Dm (D.put (kyL k) (.held (.agg (CA c)))) (addK ks k) (fun j => if j = k then c else cv j) := by
  refine ⟨?_, fun j hj => ?_, fun j hj z => ?_, nd_addK h.nd k, fun j hj => ?_⟩
  · rw [size_put ht, h.hs k hk, addK_len, h.sz]
    by_cases e : k ∈ ks <;> simp [e]
  · by_cases e : j = k
    · subst e
      rw [has_put_same ht.isMap (kyL_key _)]
      exact (decide_eq_true (mem_addK.2 (.inr rfl))).symm
    · rw [has_put_other (kyL_ne hj hk e), h.hs j hj, decide_eq_decide, mem_addK]
      constructor
      · exact .inl
      · rintro (h' | h')
        · exact h'
        · exact absurd h' e
  · by_cases e : j = k
    · subst e
      rw [atKey_put_same ht.isMap (kyL_key _)]
      simp
    · have hj' : j ∈ ks := by rcases mem_addK.1 hj with h' | h'; exact h'; exact absurd h' e
      rw [atKey_put_other (kyL_ne (h.ok j hj') hk e), h.cl j hj']
      simp [e]
  · rcases mem_addK.1 hj with h' | rfl
    · exact h.ok j h'
    · exact hk
theorem Cm.put {w : World} {m : Nat} {ks : List Kyy} {cv : Kyy → Nat → Int} {k : Kyy} (h : Cm w m ks cv) (hk : KyOk k) (hl : ks.length ≤ 100000) (c : Nat → Int) :
    ∃ w', (Instr.mapUpdate 73 (.map (some m)) (kyV k) (.agg (CA c))).run Try.prog w = .ok () w' ∧ Cm w' m (addK ks k) (fun j => if j = k then c else cv j) ∧ w.grownBy w' (some m) := by
  obtain ⟨D, h1, h2⟩ := h
  obtain ⟨w', hup, h6, h7⟩ := h1.update (e := 54) (d := .held (.agg (CA c))) (ps := []) keyed16 Try.underlying73 (by rw [h2.sz]; unfold maxLen; omega) (key16 hk) (val := .agg (CA c)) rfl
  exact ⟨w', hup, ⟨_, tight16 h6, h2.put (h1.tidy keyed16) hk c⟩, h7⟩
theorem Cm.len {w : World} {m : Nat} {ks : List Kyy} {cv : Kyy → Nat → Int} (h : Cm w m ks cv) (ty : TypeId) : (Builtin.len_ #[73] ty #[.map (some m)]).run Try.prog w = .ok (.int .i64 ((ks.length : Nat) : Int)) w := by
  obtain ⟨D, h1, h2⟩ := h
  rw [h1.len Try.underlying73 ty, h2.sz]
theorem Dm.del {D : DataW Value} {ks : List Kyy} {cv : Kyy → Nat → Int} (h : Dm D ks cv) (ht : Tidy D) {k : Kyy} (hk : k ∈ ks) : Dm (D.del (kyL k)) (ks.filter fun j => decide (j ≠ k)) cv := by
  have hko := h.ok k hk
  refine ⟨?_, fun j hj => ?_, fun j hj z => ?_, h.nd.filter _, fun j hj => h.ok j (List.mem_filter.1 hj).1⟩
  · have h1 := size_del (k := kyL k) ht
    rw [h.hs k hko, decide_eq_true hk, h.sz] at h1
    have h2 : (ks.filter fun j => decide (j ≠ k)).length + 1 = ks.length := by
      have := List.length_eq_countP_add_countP (fun j => decide (j ≠ k)) (l := ks)
      rw [List.countP_eq_length_filter] at this
      have h3 : ks.countP (fun a => !decide (a ≠ k)) = 1 := by
        have e : (fun a => !decide (a ≠ k)) = fun a : Kyy => a == k := by
          funext a
          by_cases e : a = k <;> simp [e]
        rw [e]
        exact h.nd.count.trans (if_pos hk)
      have h4 : ks.countP (fun a => decide ¬ (decide (a ≠ k) = true)) = ks.countP (fun a => !decide (a ≠ k)) := by
        congr 1
        funext a
        by_cases e : a = k <;> simp [e]
      omega
    simp at h1
    omega
  · by_cases e : j = k
    · subst e
      rw [has_del_same]
      symm
      apply decide_eq_false
      intro hm
      simp [List.mem_filter] at hm
    · rw [has_del_other (kyL_ne hj hko e), h.hs j hj, decide_eq_decide]
      simp [List.mem_filter, e]
  · obtain ⟨h1, h2⟩ := List.mem_filter.1 hj
    have e : j ≠ k := of_decide_eq_true h2
    rw [atKey_del_other (kyL_ne (h.ok j h1) hko e)]
    exact h.cl j h1 z
end Go.Proofs.Ytfnageillhpjpaa
namespace Go.Proofs.Ytfnageillhpjpaa
open Go.RowKit Go.Maps
set_option linter.unusedVariables false
set_option maxRecDepth 100000

def flA (f : Flw) : Array Value := #[.int .i64 f.nx, .int .i64 f.mt, .bool f.md]
def E3f : En Flw := ⟨3, fun f => (flA f).toList, fun _ => rfl, fun x u hu => by simp [flA] at hu; rcases hu with rfl | rfl | rfl <;> rfl, by omega⟩
/-- Where a basin lies: its block, its map, its streams, its bases, its resolutions. -/
structure Bkk where
  b : Nat
  m : Nat
  gf : Nat
  cf : Nat
  gb : Nat
  cb : Nat
  vr : Value
def bsC (K : Bkk) (sh mo : Int) (nf nb : Nat) : Array Value := #[K.vr, .int .i64 sh, .int .i64 mo, .slice (some ⟨K.gf, 0, none⟩) nf K.cf, .slice (some ⟨K.gb, 0, none⟩) nb K.cb, .map (some K.m)]
/-- A basin in memory. -/
structure Bq (W : World) (B : Nat) (K : Bkk) (S : Bsn) : Prop where
  blk : Blk W K.b (bsC K S.sh S.mo S.fl.length S.ba.length) 75
  ge : B ≤ K.b
  re : Io W B K.vr S.res
  fe : Rw E3f 71 W K.gf K.cf S.fl
  gef : B ≤ K.gf
  be : Rw E2 38 W K.gb K.cb S.ba
  geb : B ≤ K.gb
  ce : Cm W K.m S.ks S.cv
  gem : B ≤ K.m
  ok : Okb S
/-- Its blocks that turn. -/
def bkB (K : Bkk) (k : Nat) : Prop := k = K.gf ∨ k = K.gb ∨ k = K.m
theorem rw_kind {α : Type} {E : En α} {e : TypeId} {W : World} {g cap : Nat} {L : List α} (h : Rw E e W g cap L) : kindR W g e := by
  obtain ⟨_, _, cur, hB, _⟩ := h
  exact hB.kindR
theorem rw_at {α : Type} {E : En α} {e : TypeId} {W W' : World} {g cap : Nat} {L : List α} (h : Rw E e W g cap L) (he : W'.heap[g]? = W.heap[g]?) : Rw E e W' g cap L := by
  obtain ⟨h1, h2, cur, hB, h3, h4⟩ := h
  exact ⟨h1, h2, cur, by unfold Blk; rw [he]; exact hB, h3, h4⟩
theorem Bq.noI {W : World} {B : Nat} {K : Bkk} {S : Bsn} (h : Bq W B K S) : NoI (bkB K) W := by
  rintro k (e | e | e) hi
  · subst e; exact absurd ((rw_kind h.fe).uniq hi) (by decide)
  · subst e; exact absurd ((rw_kind h.be).uniq hi) (by decide)
  · subst e; exact h.ce.noKind _ hi
theorem Bq.noB {W : World} {B : Nat} {K : Bkk} {S : Bsn} (h : Bq W B K S) : ¬ bkB K K.b := by
  rintro (e | e | e)
  · exact absurd ((rw_kind h.fe).uniq (e ▸ h.blk.kindR)) (by decide)
  · exact absurd ((rw_kind h.be).uniq (e ▸ h.blk.kindR)) (by decide)
  · exact h.ce.noKind 75 (e ▸ h.blk.kindR)
theorem Bq.nfb {W : World} {B : Nat} {K : Bkk} {S : Bsn} (h : Bq W B K S) : K.gf ≠ K.gb := fun e => absurd ((rw_kind h.fe).uniq (e ▸ rw_kind h.be)) (by decide)
theorem Bq.nfm {W : World} {B : Nat} {K : Bkk} {S : Bsn} (h : Bq W B K S) : K.gf ≠ K.m := fun e => h.ce.noKind _ (e ▸ rw_kind h.fe)
theorem Bq.nbm {W : World} {B : Nat} {K : Bkk} {S : Bsn} (h : Bq W B K S) : K.gb ≠ K.m := fun e => h.ce.noKind _ (e ▸ rw_kind h.be)
theorem Bq.bks {W : World} {B : Nat} {K : Bkk} {S : Bsn} (h : Bq W B K S) {k : Nat} (hk : bkB K k) : B ≤ k ∧ k < W.heap.size := by
  rcases hk with rfl | rfl | rfl
  · exact ⟨h.gef, h.fe.lt⟩
  · exact ⟨h.geb, h.be.lt⟩
  · exact ⟨h.gem, h.ce.lt⟩
theorem Bq.frm {W W' : World} {B : Nat} {K : Bkk} {S : Bsn} {X : Nat → Prop} (h : Bq W B K S) (hf : Frm X W W') (hi : NoI X W) (hb : ¬ X K.b) (hx : ∀ k, bkB K k → ¬ X k) : Bq W' B K S :=
  ⟨h.blk.frm hf hb, h.ge, h.re.frm hf hi, rw_at h.fe (hf.other _ h.fe.lt (hx _ (.inl rfl))), h.gef, rw_at h.be (hf.other _ h.be.lt (hx _ (.inr (.inl rfl)))), h.geb, h.ce.frm hf (hx _ (.inr (.inr rfl))), h.gem, h.ok⟩
theorem Bq.keep {W W' : World} {B : Nat} {K : Bkk} {S : Bsn} (h : Bq W B K S) (hb : Below W.heap.size W W') : Bq W' B K S :=
  h.frm (X := fun _ => False) (frm_below hb) (fun _ h => h.elim) (fun h => h) (fun _ _ h => h)
theorem Bq.less {W : World} {B B' : Nat} {K : Bkk} {S : Bsn} (h : Bq W B K S) (hb : B' ≤ B) : Bq W B' K S :=
  ⟨h.blk, Nat.le_trans hb h.ge, h.re.less hb, h.fe, Nat.le_trans hb h.gef, h.be, Nat.le_trans hb h.geb, h.ce, Nat.le_trans hb h.gem, h.ok⟩
/-- What a basin's own blocks hold has turned. -/
theorem Bq.upd {W W' : World} {B : Nat} {K : Bkk} {S T : Bsn} (h : Bq W B K S) (hf : Frm (bkB K) W W') (h1 : T.res = S.res) (h2 : T.sh = S.sh) (h3 : T.mo = S.mo) (h4 : T.fl.length = S.fl.length) (h5 : T.ba.length = S.ba.length)
    (hfe : Rw E3f 71 W' K.gf K.cf T.fl) (hbe : Rw E2 38 W' K.gb K.cb T.ba) (hce : Cm W' K.m T.ks T.cv) (ok : Okb T) : Bq W' B K T :=
  ⟨by rw [h2, h3, h4, h5]; exact h.blk.frm hf h.noB, h.ge, by rw [h1]; exact h.re.frm hf h.noI, hfe, h.gef, hbe, h.geb, hce, h.gem, ok⟩
theorem Bq.below {W W' : World} {B : Nat} {K : Bkk} {S : Bsn} (h : Bq W B K S) (hf : Frm (bkB K) W W') (hB : B ≤ W.heap.size) : Below B W W' := hf.below hB (fun k hk => (h.bks hk).1)
/-- The cells of a basin, in every world in which nothing of it has turned. -/
theorem Bq.cells {W : World} {B : Nat} {K : Bkk} {S : Bsn} (h : Bq W B K S) : ∀ V, Below W.heap.size W V → V.cell? ⟨K.b, 0, none⟩ = some K.vr ∧ V.cell? ⟨K.b, 1, none⟩ = some (.int .i64 S.sh) ∧ V.cell? ⟨K.b, 2, none⟩ = some (.int .i64 S.mo) ∧ V.cell? ⟨K.b, 3, none⟩ = some (.slice (some ⟨K.gf, 0, none⟩) S.fl.length K.cf) ∧ V.cell? ⟨K.b, 4, none⟩ = some (.slice (some ⟨K.gb, 0, none⟩) S.ba.length K.cb) ∧ V.cell? ⟨K.b, 5, none⟩ = some (.map (some K.m)) := fun V hb =>
  ⟨(h.blk.keep hb).at rfl, (h.blk.keep hb).at rfl, (h.blk.keep hb).at rfl, (h.blk.keep hb).at rfl, (h.blk.keep hb).at rfl, (h.blk.keep hb).at rfl⟩
abbrev bptr (K : Bkk) : Value := .pointer (some ⟨K.b, 0, none⟩)

theorem bwithin_any (n m : Int) (w : World) : Calls Try.prog 16 #[.int .i64 n, .int .i64 m] w fun e w' => e = .returned (.bool (wiB n m)) ∧ w' = w := by
  by_cases c : 1 ≤ n
  · have HV : Hid (decide (n ≤ m) = wiB n m) := by show _ = _; unfold wiB; rw [decide_eq_decide]; omega
    go_enter Try.func16, Try.ntmps16
    go_wp2_with fail
    go_ret
    exact ⟨ret_bool HV.out, rfl⟩
  · have HV : Hid (false = wiB n m) := by show _ = _; symm; exact decide_eq_false (by omega)
    go_enter Try.func16, Try.ntmps16
    go_wp2_with fail
    go_ret
    exact ⟨ret_bool HV.out, rfl⟩
theorem goodR_iff {res : List Int} {sh : Int} : goodR res sh = true ↔ (∀ r ∈ res, 1 ≤ r) ∧ (1 ≤ res.length ∧ res.length ≤ 3) ∧ (1 ≤ sh ∧ sh ≤ 4) := by
  unfold goodR
  simp only [Bool.and_eq_true, decide_eq_true_eq, List.all_eq_true]
  constructor
  · rintro ⟨⟨a, b⟩, c⟩; exact ⟨a, b, c⟩
  · rintro ⟨a, b, c⟩; exact ⟨⟨a, b⟩, c⟩
theorem bgood_any (v : Value) (l : List Int) (sh : Int) (w : World) (hv : Is w v l) : Calls Try.prog 17 #[v, .int .i64 sh] w fun e w' => e = .returned (.bool (goodR l sh)) ∧ w' = w := by
  obtain ⟨q, cap, g, off, rfl, hc, hm, hp, hg, hr⟩ := hv
  generalize hn : l.length = n at *
  have hgd : ∀ k, wiB (n : Int) 3 = decide (1 ≤ l.length ∧ l.length ≤ 3) ∧ (k = 0 → k = 0) := fun k => ⟨by unfold wiB; rw [decide_eq_decide, hn]; omega, fun h => h⟩
  go_enter Try.func17, Try.ntmps17
  go_wp2_with fail
  go_loopw [9] (fun i wr => ∃ k : Nat, k ≤ n ∧ i = .int .i64 (k : Int) ∧ (∀ x ∈ l.take k, 1 ≤ x) ∧ wr = w) (fun i _ => n - (intOf i).toNat)
  case atStart => exact ⟨0, by omega, rfl, fun x hx => by simp at hx, rfl⟩
  case round =>
    obtain ⟨k, hk, rfl, hall, rfl⟩ := hrel
    by_cases c : k = n
    · subst c
      rw [List.take_of_length_le (by omega)] at hall
      have HV : Hid (goodR l sh = (wiB (k : Int) 3 && wiB sh 4)) := by
        show _ = _
        unfold goodR
        rw [(hgd 0).1, show l.all (fun r => decide (1 ≤ r)) = true by simp only [List.all_eq_true, decide_eq_true_eq]; exact hall, Bool.true_and]
        rfl
      clear hall hr hp hg hgd
      cases a1 : wiB (k : Int) 3
      · have HV' : Hid (goodR l sh = false) := by show _ = _; rw [HV.out, a1]; rfl
        go_wp2_with (go_at_call 16; refine (bwithin_any _ _ _).mono ?_; rintro e W ⟨rfl, rfl⟩; rw [a1])
        go_ret
        exact ⟨by rw [HV'.out]; rfl, rfl⟩
      · have HV' : Hid (goodR l sh = wiB sh 4) := by show _ = _; rw [HV.out, a1]; rfl
        go_wp2_with (go_at_call 16; refine (bwithin_any _ _ _).mono ?_; rintro e W ⟨rfl, rfl⟩; first | rw [a1] | skip)
        go_ret
        exact ⟨by rw [HV'.out]; rfl, rfl⟩
    · obtain ⟨x, hx⟩ : ∃ x, l[k]? = some x := ⟨l[k], List.getElem?_eq_getElem (by omega)⟩
      obtain rfl := hp (by omega)
      have y0 := hr k x hx
      have hki : (k : Int) < (n : Int) := by omega
      by_cases c1 : x < 1
      · have HV : Hid (goodR l sh = false) := by
          show _ = _
          cases hh : goodR l sh
          · rfl
          · have := (goodR_iff.1 hh).1 x (List.mem_of_getElem? hx); omega
        clear hall hr hp hg hgd hx
        go_wp2_with fail
        go_ret
        exact ⟨by rw [HV.out]; rfl, rfl⟩
      · have HA : Hid (∀ x ∈ l.take (k + 1), 1 ≤ x) := by
          intro z hz
          rw [List.take_add_one, hx] at hz
          rcases List.mem_append.1 hz with hz | hz
          · exact hall z hz
          · simp at hz; subst hz; omega
        clear hall hr hp hg hgd hx
        go_wp2_with fail
        go_roundw
        case rel => exact ⟨k + 1, by omega, by go_num, HA.out, trivial⟩
        case measure => simp [intOf]; omega
theorem blanes_any {B : Nat} {K : Bkk} {S : Bsn} (w : World) (h : Bq w B K S) : Calls Try.prog 22 #[bptr K] w fun e w' => e = .returned (.int .i64 (S.ba.length : Int)) ∧ w' = w := by
  obtain ⟨-, -, -, -, c4, -⟩ := h.cells w (Below.refl _ _)
  clear h
  generalize S.ba.length = n at *
  obtain ⟨b, m, gf, cf, gb, cb, vr⟩ := K
  try dsimp only at *
  go_enter Try.func22, Try.ntmps22
  go_wp2_with fail
  go_ret
  exact ⟨rfl, rfl⟩
theorem blanes_nil (w : World) : Calls Try.prog 22 #[.pointer none] w fun e w' => e = .returned (.int .i64 0) ∧ w' = w := by
  go_enter Try.func22, Try.ntmps22
  go_wp2_with fail
  go_ret
  exact ⟨rfl, rfl⟩
/-- len of a map, where its run is known. -/
theorem len_l {P : Program} {ops : Array Oper} {rest : List Oper} {o : Oper} {a : Act} {w : World} {Q : Exit → Act → World → Prop} (hw : Region.wanted o (yielded ops a.tmps) = true) {x : Operand} {t : TypeId} (ho : o.op = .call { callee := .builtin .len, args := #[x], argTypes := #[t] }) (v : Value) (hx : a.eval x = v) {v' : Value} {w' : World}
    (hr : ∀ ty, (Builtin.len_ #[t] ty #[v]).run P w = .ok v' w') (h : wpList P ops Q rest (a.put o.dst v') w') : wpList P ops Q (o :: rest) a w := by
  unfold wpList
  rw [if_pos hw]
  left
  unfold Oper.wp execOp
  simp only [ho, resolve, invoke, builtin, Sem.run_bind, Sem.run_pure, Result.andThen_ok, List.map_toArray, List.map_cons, List.map_nil, hx, hr]
  exact h
theorem blen_any {B : Nat} {K : Bkk} {S : Bsn} (w : World) (h : Bq w B K S) : Calls Try.prog 12 #[bptr K] w fun e w' => e = .returned (.int .i64 ((S.ks.length : Nat) : Int)) ∧ w' = w := by
  obtain ⟨-, -, -, -, -, c5⟩ := h.cells w (Below.refl _ _)
  have hl := h.ce.len
  clear h
  generalize S.ks.length = n at *
  obtain ⟨b, m, gf, cf, gb, cb, vr⟩ := K
  try dsimp only at *
  go_enter Try.func12, Try.ntmps12
  go_wp2_with (at_len; refine len_l rfl rfl _ rfl hl ?_)
  go_ret
  exact ⟨rfl, rfl⟩
theorem blen_nil (w : World) : Calls Try.prog 12 #[.pointer none] w fun e w' => e = .returned (.int .i64 0) ∧ w' = w := by
  go_enter Try.func12, Try.ntmps12
  go_wp2_with fail
  go_ret
  exact ⟨rfl, rfl⟩
def hasN (n : Int) (m : Nat) : Bool := decide (0 ≤ n ∧ n < (m : Int))
theorem bhasS_any {B : Nat} {K : Bkk} {S : Bsn} (n : Int) (w : World) (h : Bq w B K S) : Calls Try.prog 21 #[bptr K, .int .i64 n] w fun e w' => e = .returned (.bool (hasN n S.fl.length)) ∧ w' = w := by
  obtain ⟨-, -, -, c3, -, -⟩ := h.cells w (Below.refl _ _)
  clear h
  generalize S.fl.length = k at *
  obtain ⟨b, m, gf, cf, gb, cb, vr⟩ := K
  try dsimp only at *
  by_cases c : 0 ≤ n
  · have HV : Hid (decide (n < (k : Int)) = hasN n k) := by show _ = _; unfold hasN; rw [decide_eq_decide]; omega
    go_enter Try.func21, Try.ntmps21
    go_wp2_with fail
    go_ret
    exact ⟨ret_bool HV.out, rfl⟩
  · have HV : Hid (false = hasN n k) := by show _ = _; symm; exact decide_eq_false (by omega)
    go_enter Try.func21, Try.ntmps21
    go_wp2_with fail
    go_ret
    exact ⟨ret_bool HV.out, rfl⟩
theorem bhasS_nil (n : Int) (w : World) : Calls Try.prog 21 #[.pointer none, .int .i64 n] w fun e w' => e = .returned (.bool false) ∧ w' = w := by
  go_enter Try.func21, Try.ntmps21
  go_wp2_with fail
  go_ret
  exact ⟨rfl, rfl⟩
theorem bhasL_any {B : Nat} {K : Bkk} {S : Bsn} (n : Int) (w : World) (h : Bq w B K S) : Calls Try.prog 34 #[bptr K, .int .i64 n] w fun e w' => e = .returned (.bool (hasN n S.ba.length)) ∧ w' = w := by
  have HL := blanes_any w h
  clear h
  generalize S.ba.length = k at *
  obtain ⟨b, m, gf, cf, gb, cb, vr⟩ := K
  try dsimp only at *
  by_cases c : 0 ≤ n
  · have HV : Hid (decide (n < (k : Int)) = hasN n k) := by show _ = _; unfold hasN; rw [decide_eq_decide]; omega
    go_enter Try.func34, Try.ntmps34
    go_wp2_with (go_at_call 22; refine HL.mono ?_; rintro e W ⟨rfl, rfl⟩)
    go_ret
    exact ⟨ret_bool HV.out, rfl⟩
  · have HV : Hid (false = hasN n k) := by show _ = _; symm; exact decide_eq_false (by omega)
    go_enter Try.func34, Try.ntmps34
    go_wp2_with fail
    go_ret
    exact ⟨ret_bool HV.out, rfl⟩
theorem bhasL_nil (n : Int) (w : World) : Calls Try.prog 34 #[.pointer none, .int .i64 n] w fun e w' => e = .returned (.bool false) ∧ w' = w := by
  by_cases c : 0 ≤ n
  · have HV : Hid (decide (n < 0) = false) := by show _ = _; exact decide_eq_false (by omega)
    go_enter Try.func34, Try.ntmps34
    go_wp2_with (go_at_call 22; refine (blanes_nil _).mono ?_; rintro e W ⟨rfl, rfl⟩)
    go_ret
    exact ⟨by first | rfl | exact ret_bool HV.out, rfl⟩
  · go_enter Try.func34, Try.ntmps34
    go_wp2_with fail
    go_ret
    exact ⟨rfl, rfl⟩
end Go.Proofs.Ytfnageillhpjpaa
namespace Go.Proofs.Ytfnageillhpjpaa
open Go.RowKit Go.Maps
set_option linter.unusedVariables false
set_option maxRecDepth 100000

theorem hasN_no {n : Int} {m : Nat} (h : hasN n m = true) : ∃ i : Nat, n = (i : Int) ∧ i < m := by
  have := of_decide_eq_true h
  exact ⟨n.toNat, by omega, by omega⟩
theorem bnext_at {B : Nat} {K : Bkk} {S : Bsn} (i : Nat) (f : Flw) (w : World) (h : Bq w B K S) (hi : S.fl[i]? = some f) : Calls Try.prog 8 #[bptr K, .int .i64 (i : Int)] w fun e w' => e = .returned (.int .i64 f.nx) ∧ w' = w := by
  obtain ⟨-, -, -, c3, -, -⟩ := h.cells w (Below.refl _ _)
  have hl := (List.getElem?_eq_some_iff.1 hi).1
  have HS := bhasS_any (i : Int) w h
  have hh : hasN (i : Int) S.fl.length = true := decide_eq_true (by omega)
  have z0 : w.cell? ⟨K.gf, i * 3, none⟩ = some (.int .i64 f.nx) := h.fe.cell (i := 0) hi rfl
  have hli : (i : Int) < (S.fl.length : Int) := by omega
  rw [hh] at HS
  clear h hi hh
  generalize S.fl.length = n at *
  obtain ⟨b, m, gf, cf, gb, cb, vr⟩ := K
  try dsimp only at *
  go_enter Try.func8, Try.ntmps8
  go_wp2_with (go_at_call 21; refine HS.mono ?_; rintro e W ⟨rfl, rfl⟩)
  go_ret
  exact ⟨rfl, rfl⟩
theorem bnext_no {B : Nat} {K : Bkk} {S : Bsn} (n : Int) (w : World) (h : Bq w B K S) (hn : hasN n S.fl.length = false) : Calls Try.prog 8 #[bptr K, .int .i64 n] w fun e w' => e = .returned (.int .i64 0) ∧ w' = w := by
  have HS := bhasS_any n w h
  rw [hn] at HS
  clear h hn
  obtain ⟨b, m, gf, cf, gb, cb, vr⟩ := K
  try dsimp only at *
  go_enter Try.func8, Try.ntmps8
  go_wp2_with (go_at_call 21; refine HS.mono ?_; rintro e W ⟨rfl, rfl⟩)
  go_ret
  exact ⟨rfl, rfl⟩
theorem bnext_nil (n : Int) (w : World) : Calls Try.prog 8 #[.pointer none, .int .i64 n] w fun e w' => e = .returned (.int .i64 0) ∧ w' = w := by
  go_enter Try.func8, Try.ntmps8
  go_wp2_with (go_at_call 21; refine (bhasS_nil _ _).mono ?_; rintro e W ⟨rfl, rfl⟩)
  go_ret
  exact ⟨rfl, rfl⟩
/-- What Next answers. -/
def nxN (S : Bsn) (n : Int) : Int := if hasN n S.fl.length = true then nxOf S n.toNat else 0
theorem banext_any {B : Nat} {K : Bkk} {S : Bsn} (n : Int) (w : World) (h : Bq w B K S) : Calls Try.prog 8 #[bptr K, .int .i64 n] w fun e w' => e = .returned (.int .i64 (nxN S n)) ∧ w' = w := by
  cases hh : hasN n S.fl.length
  · have : nxN S n = 0 := by unfold nxN; rw [hh]; rfl
    rw [this]
    exact bnext_no n w h hh
  · obtain ⟨i, rfl, hi⟩ := hasN_no hh
    have : nxN S (i : Int) = (S.fl[i]'hi).nx := by unfold nxN nxOf; rw [hh, if_pos rfl, Int.toNat_natCast, List.getElem?_eq_getElem hi]
    rw [this]
    exact bnext_at i _ w h (List.getElem?_eq_getElem hi)
theorem nxN_J {S : Bsn} (h : Okb S) (n : Int) : J64 (nxN S n) := by
  unfold nxN nxOf
  split
  · split
    · rename_i f hf
      exact (h.ff f (List.mem_of_getElem? hf)).1
    · unfold J64; omega
  · unfold J64; omega
end Go.Proofs.Ytfnageillhpjpaa
namespace Go.Proofs.Ytfnageillhpjpaa
open Go.RowKit Go.Maps
set_option linter.unusedVariables false
set_option maxRecDepth 100000

/-- What past reads of a basin. -/
structure Pw (W : World) (K : Bkk) (S : Bsn) : Prop where
  blk : Blk W K.b (bsC K S.sh S.mo S.fl.length S.ba.length) 75
  be : Rw E2 38 W K.gb K.cb S.ba
theorem Bq.pw {W : World} {B : Nat} {K : Bkk} {S : Bsn} (h : Bq W B K S) : Pw W K S := ⟨h.blk, h.be⟩
theorem Pw.keep {W W' : World} {K : Bkk} {S : Bsn} (h : Pw W K S) (hb : Below W.heap.size W W') : Pw W' K S := ⟨h.blk.keep hb, h.be.keep hb⟩
theorem Pw.frm {W W' : World} {K : Bkk} {S : Bsn} {X : Nat → Prop} (h : Pw W K S) (hf : Frm X W W') (h1 : ¬ X K.b) (h2 : ¬ X K.gb) : Pw W' K S := ⟨h.blk.frm hf h1, rw_at h.be (hf.other _ h.be.lt h2)⟩
theorem pasB_at {ba : List (Int × Int)} {k : Kyy} {i : Nat} {c : Int × Int} (hi : k.1 = (i : Int)) (hc : ba[i]? = some c) : pasB ba k = pl k.2.1 k.2.2 c.1 c.2 := by
  unfold pasB
  rw [hi, Int.toNat_natCast, hc]
set_option maxHeartbeats 1000000 in
theorem bapast_any {K : Bkk} {S : Bsn} (k : Kyy) (w : World) (h : Pw w K S) (h0 : 0 ≤ k.1) (h1 : k.1 < (S.ba.length : Int)) :
    Calls Try.prog 41 #[bptr K, kyV k] w fun e w' => e = .returned (.bool (pasB S.ba k)) ∧ Below w.heap.size w w' := by
  obtain ⟨i, hi⟩ : ∃ i : Nat, k.1 = (i : Int) := ⟨k.1.toNat, by omega⟩
  obtain ⟨c, hc⟩ : ∃ c, S.ba[i]? = some c := ⟨S.ba[i]'(by omega), List.getElem?_eq_getElem (by omega)⟩
  rw [pasB_at hi hc]
  obtain ⟨k0, k1, k2⟩ := k
  dsimp only at hi h0 h1
  subst hi
  unfold kyV
  obtain ⟨A, hE, hX, hw⟩ := blk1 w #[.int .i64 (i : Int), .int .i64 k1, .int .i64 k2] 47
  have hA := h.keep hw
  have y0 : ∀ y : Cls A, y.val.cell? ⟨w.heap.size, 0, none⟩ = some (.int .i64 (i : Int)) := fun y => (hX.keep y.prop).at rfl
  have y1 : ∀ y : Cls A, y.val.cell? ⟨w.heap.size, 1, none⟩ = some (.int .i64 k1) := fun y => (hX.keep y.prop).at rfl
  have y2 : ∀ y : Cls A, y.val.cell? ⟨w.heap.size, 2, none⟩ = some (.int .i64 k2) := fun y => (hX.keep y.prop).at rfl
  have x4 : ∀ y : Cls A, y.val.cell? ⟨K.b, 4, none⟩ = some (.slice (some ⟨K.gb, 0, none⟩) S.ba.length K.cb) := fun y => (hA.blk.keep y.prop).at rfl
  have z0 : ∀ y : Cls A, y.val.cell? ⟨K.gb, i * 2, none⟩ = some (.int .i64 c.1) := fun y => (hA.be.keep y.prop).cell (i := 0) hc rfl
  have z1 : ∀ y : Cls A, y.val.cell? ⟨K.gb, i * 2 + 1, none⟩ = some (.int .i64 c.2) := fun y => (hA.be.keep y.prop).cell (i := 1) hc rfl
  clear h hA hX hc
  generalize S.ba.length = n at *
  obtain ⟨b, m, gf, cf, gb, cb, vr⟩ := K
  obtain ⟨c0, c1⟩ := c
  try dsimp only at *
  go_enter Try.func41, Try.ntmps41
  go_upto_region 1 with fail
  have HZ := cls_some A
  refine wp_region_below (by kernel_rfl) (by kernel_rfl) ?_
  repeat (go_big_quiet_step (first | (go_at_call 40; exact calls_below (pless_any _ _ _ _ _))))
  refine wpQuiet_nil ?_
  rintro _ ⟨y, rfl⟩
  go_wp2_with fail
  go_ret
  exact ⟨rfl, ab_trans hw y.prop⟩
/-- One of them into a row, at one operation. -/
theorem stEW {P : Program} {α : Type} {E : En α} {e ty : TypeId} {o : Oper} {a : Act} {w : World} {K : Act → World → Prop} {Q : Exit → Act → World → Prop} (d : Option Tmp) (hd : o.dst = d) {x y : Operand} (ho : o.op = .store ty x y) {g cap i off : Nat} {L : List α} (h : Rw E e w g cap L) (hi : i < L.length) (c : α) (arr : Array Value) (harr : arr.toList = E.f c)
    (hoff : off = i * E.k) (hx : a.eval x = .pointer (some ⟨g, off, none⟩)) (hy : a.eval y = .agg arr) (hinf : (P.info? ty).map (·.size) = some arr.size)
    (hK : ∀ W', Rw E e W' g cap (L.set i c) → Chg g w W' → K (a.put d undef) W') : o.wp P a w K Q := by
  subst hd
  obtain ⟨h1, h2, h3⟩ := h.stored hi c
  have hs : arr.size = E.k := by rw [← Array.length_toList, harr, E.len]
  subst hoff
  refine wp_store_mid ty x y ho g (i * E.k) arr hx hy (by rw [hs]; exact h3) hinf ?_ ?_
  · rw [← Array.all_toList, harr]
    exact List.all_eq_true.2 (E.one c)
  · rw [harr]
    exact hK _ h1 h2
theorem mxP_yes {c p : Int × Int} (h : pl c.1 c.2 p.1 p.2 = true) : mxP c p = p := by unfold mxP; rw [if_pos h]
theorem mxP_no {c p : Int × Int} (h : pl c.1 c.2 p.1 p.2 = false) : mxP c p = c := by unfold mxP; rw [if_neg (by rw [h]; simp)]
theorem lifB_at {S : Bsn} {i : Nat} {c p : Int × Int} (hc : S.ba[i]? = some c) : lifB S i p = { S with ba := S.ba.set i (mxP c p) } := by unfold lifB; rw [hc]
theorem set_same {α : Type} {l : List α} {i : Nat} {c : α} (hc : l[i]? = some c) : l.set i c = l := by
  obtain ⟨h1, h2⟩ := List.getElem?_eq_some_iff.1 hc
  rw [← h2]
  exact List.set_getElem_self h1
set_option maxHeartbeats 1000000 in
theorem balift_any {B : Nat} {K : Bkk} {S : Bsn} (i : Nat) (p : Int × Int) (w : World) (h : Bq w B K S) (hi : i < S.ba.length) (hp : J64 p.1 ∧ J64 p.2) :
    Calls Try.prog 24 #[bptr K, .int .i64 (i : Int), Plc p.1 p.2] w fun e w' => e = .returned (.tuple #[]) ∧ Bq w' B K (lifB S i p) ∧ Frm (bkB K) w w' := by
  obtain ⟨c, hc⟩ : ∃ c, S.ba[i]? = some c := ⟨S.ba[i], List.getElem?_eq_getElem hi⟩
  obtain ⟨A, hE, hX, hw⟩ := blk1 w #[.int .i64 p.1, .int .i64 p.2] 38
  have hA := h.keep hw
  have hOK := okb_lif h.ok (i := i) hp
  have y0 : ∀ y : Cls A, y.val.cell? ⟨w.heap.size, 0, none⟩ = some (.int .i64 p.1) := fun y => (hX.keep y.prop).at rfl
  have y1 : ∀ y : Cls A, y.val.cell? ⟨w.heap.size, 1, none⟩ = some (.int .i64 p.2) := fun y => (hX.keep y.prop).at rfl
  have x4 : ∀ y : Cls A, y.val.cell? ⟨K.b, 4, none⟩ = some (.slice (some ⟨K.gb, 0, none⟩) S.ba.length K.cb) := fun y => (hA.blk.keep y.prop).at rfl
  have z0 : ∀ y : Cls A, y.val.cell? ⟨K.gb, i * 2, none⟩ = some (.int .i64 c.1) := fun y => (hA.be.keep y.prop).cell (i := 0) hc rfl
  have z1 : ∀ y : Cls A, y.val.cell? ⟨K.gb, i * 2 + 1, none⟩ = some (.int .i64 c.2) := fun y => (hA.be.keep y.prop).cell (i := 1) hc rfl
  have hli : (i : Int) < (S.ba.length : Int) := by omega
  have HL : Hid (∀ V, Below A.heap.size A V → Bq V B K S ∧ Blk V w.heap.size #[.int .i64 p.1, .int .i64 p.2] 38 ∧ Below w.heap.size w V) := fun V hb => ⟨hA.keep hb, hX.keep hb, ab_trans hw hb⟩
  have HC : Hid (lifB S i p = { S with ba := S.ba.set i (mxP c p) }) := lifB_at hc
  have HS : Hid (S.ba[i]? = some c) := hc
  have hib : Hid (i < S.ba.length) := hi
  have HG : Hid (K.gb < w.heap.size) := h.be.lt
  clear h hA hX hc hi
  generalize hn : S.ba.length = n at *
  have hNb : Hid (S.ba.length = n) := hn
  clear hn
  obtain ⟨b, m, gf, cf, gb, cb, vr⟩ := K
  obtain ⟨c0, c1⟩ := c
  obtain ⟨p0, p1⟩ := p
  try dsimp only at *
  go_enter Try.func24, Try.ntmps24
  go_upto_region 1 with fail
  have HZ := cls_some A
  refine wp_region_below (by kernel_rfl) (by kernel_rfl) ?_
  repeat (go_big_quiet_step (first | (go_at_call 40; exact calls_below (pless_any _ _ _ _ _))))
  refine wpQuiet_nil ?_
  rintro V ⟨⟨V', hV⟩, rfl⟩
  obtain ⟨hQ, hP, hwV⟩ := HL.out V hV
  clear y0 y1 x4 z0 z1 HZ HL hE
  cases hpl : pl c0 c1 p0 p1
  · have HM : Hid (lifB S i (p0, p1) = S) := by
      show _ = _
      rw [HC.out, mxP_no hpl, set_same HS.out]
    go_wp2_with fail
    exact bodyPost_end (results_none rfl _ _ _) rfl ⟨rfl, by rw [HM.out]; exact hQ, frm_below hwV⟩
  · have HM : Hid (lifB S i (p0, p1) = { S with ba := S.ba.set i (p0, p1) }) := by
      show _ = _
      rw [HC.out, mxP_yes hpl]
    have x4 : V.cell? ⟨b, 4, none⟩ = some (.slice (some ⟨gb, 0, none⟩) n cb) := by rw [← hNb.out]; exact hQ.blk.at rfl
    have y0 : V.cell? ⟨w.heap.size, 0, none⟩ = some (.int .i64 p0) := hP.at rfl
    have y1 : V.cell? ⟨w.heap.size, 1, none⟩ = some (.int .i64 p1) := hP.at rfl
    have HBN : Hid (Blk V b (bsC ⟨b, m, gf, cf, gb, cb, vr⟩ S.sh S.mo S.fl.length S.ba.length) 75) := hQ.blk
    go_upto_region 2 with fail
    refine wp_region_held_drew (S := fun w' => w'.cell? ⟨b, 4, none⟩ = some (.slice (some ⟨gb, 0, none⟩) n cb) ∧ w'.cell? ⟨w.heap.size, 0, none⟩ = some (.int .i64 p0) ∧ w'.cell? ⟨w.heap.size, 1, none⟩ = some (.int .i64 p1)) (by kernel_rfl) ⟨x4, y0, y1⟩ (fun hHeld => ?_)
    have bV : Below V.heap.size V V.drew := ab_drew (Below.refl _ _)
    have hQ2 := hQ.keep bV
    have hP2 := hP.keep bV
    have hw2 := ab_trans hwV bV
    clear hQ hP hwV x4 y0 y1 bV hV
    generalize V.drew = V2 at *
    refine takeH (i := 0) (some 15) rfl rfl (by kernel_rfl) (by kernel_rfl) (by kernel_rfl) (fun _ _ _ h => h) (by rfl) (fun w hSw => by (try dsimp only at hSw); go_simp; try rfl) hHeld ?_
    go_frame
    refine takeH (i := 1) (some 16) rfl rfl (by kernel_rfl) (by kernel_rfl) (by kernel_rfl) (fun _ _ _ h => h) (by rfl) (fun w hSw => by (try dsimp only at hSw); go_simp; try rfl) hHeld ?_
    go_frame
    refine takeH (i := 2) (some 17) rfl rfl (by kernel_rfl) (by kernel_rfl) (by kernel_rfl) (fun _ _ _ h => h) (by rfl) (fun w hSw => by (try dsimp only at hSw); go_simp; try rfl) hHeld ?_
    go_frame
    refine takeH (i := 3) (some 18) rfl rfl (by kernel_rfl) (by kernel_rfl) (by kernel_rfl) (fun _ _ _ h => h) (by rfl) (fun w hSw => by (try dsimp only at hSw); (obtain ⟨q4, q0, q1⟩ := hSw; go_simp; try rfl)) hHeld ?_
    go_frame
    refine takeH (i := 4) (some 19) rfl rfl (by kernel_rfl) (by kernel_rfl) (by kernel_rfl) (fun _ _ _ h => h) (by rfl) (fun w hSw => by (try dsimp only at hSw); go_simp; try rfl) hHeld ?_
    go_frame
    refine takeH (i := 5) (some 20) rfl rfl (by kernel_rfl) (by kernel_rfl) (by kernel_rfl) (fun _ _ _ h => h) (by rfl) (fun w hSw => by (try dsimp only at hSw); (obtain ⟨q4, q0, q1⟩ := hSw; go_simp; try rfl)) hHeld ?_
    go_frame
    refine takeH (i := 6) (some 21) rfl rfl (by kernel_rfl) (by kernel_rfl) (by kernel_rfl) (fun _ _ _ h => h) (by rfl) (fun w hSw => by (try dsimp only at hSw); (obtain ⟨q4, q0, q1⟩ := hSw; go_simp; try rfl)) hHeld ?_
    go_frame
    refine wpAnyH_ready (rs := [7]) (by kernel_rfl) (by simp) (AllReadyH.cons rfl (fun K hK => ?_) AllReadyH.nil)
    rw [if_pos (by rfl)]
    refine stEW (E := E2) none rfl rfl hQ2.be (by rw [hNb.out]; exact hib.out) (p0, p1) #[.int .i64 p0, .int .i64 p1] rfl rfl (by first | rfl | (simp; rfl) | (go_simp; rfl)) rfl info_plc fun W3 hR3 C3 => ?_
    have hF3 : Frm (bkB ⟨b, m, gf, cf, gb, cb, vr⟩) V2 W3 := frm_chg C3 (.inr (.inl rfl))
    have hnb : b ≠ gb := fun e => hQ2.noB (.inr (.inl e))
    have hgw : gb < w.heap.size := HG.out
    have q4 : W3.cell? ⟨b, 4, none⟩ = some (.slice (some ⟨gb, 0, none⟩) n cb) := by rw [← hNb.out]; exact (hQ2.blk.chg C3 hnb).at rfl
    have hP3 := hP2.chg C3 (show w.heap.size ≠ gb by omega)
    have q0 : W3.cell? ⟨w.heap.size, 0, none⟩ = some (.int .i64 p0) := hP3.at rfl
    have q1 : W3.cell? ⟨w.heap.size, 1, none⟩ = some (.int .i64 p1) := hP3.at rfl
    refine hK.out _ _ ⟨q4, q0, q1⟩ (fun hHeld => ?_)
    refine wpAnyH_done (by kernel_rfl) ?_ _
    clear hK K
    have hQ3 : Bq W3 B ⟨b, m, gf, cf, gb, cb, vr⟩ (lifB S i (p0, p1)) := hQ2.upd hF3 (by rw [HM.out]) (by rw [HM.out]) (by rw [HM.out]) (by rw [HM.out]) (by rw [HM.out, List.length_set]) (by rw [HM.out]; exact rw_at hQ2.fe (C3.other _ hQ2.nfb)) (by rw [HM.out]; exact hR3) (by rw [HM.out]; exact hQ2.ce.at (C3.other _ hQ2.nbm.symm)) hOK
    go_wp2_with fail
    exact bodyPost_end (results_none rfl _ _ _) rfl ⟨rfl, hQ3, (frm_below hw2).trans hF3⟩
end Go.Proofs.Ytfnageillhpjpaa
namespace Go.Proofs.Ytfnageillhpjpaa
open Go.RowKit Go.Maps
set_option linter.unusedVariables false
set_option maxRecDepth 100000

/-- Which names are left on the way. -/
def lefK (ba : List (Int × Int)) (ks : List Kyy) (left : Lit → Bool) : List Kyy := ks.filter fun k => !pasB ba k || left (kyL k)
theorem lefK_0 {ba : List (Int × Int)} {ks : List Kyy} {left : Lit → Bool} (h : ∀ k ∈ ks, left (kyL k) = true) : lefK ba ks left = ks := by
  unfold lefK
  rw [List.filter_eq_self]
  intro k hk
  rw [h k hk, Bool.or_true]
theorem lefK_end {ba : List (Int × Int)} {ks : List Kyy} {left : Lit → Bool} (h : ∀ l, left l = false) : lefK ba ks left = ks.filter fun k => !pasB ba k := by
  unfold lefK
  apply List.filter_congr
  intro k _
  rw [h, Bool.or_false]
theorem same_iff {a b : Kyy} (ha : KyOk a) (hb : KyOk b) : (kyL a).sameKey (kyL b) = decide (a = b) := by
  by_cases e : a = b
  · subst e
    rw [WideAt.sameKey_self (kyL_key a)]
    simp
  · cases h : (kyL a).sameKey (kyL b)
    · simp [e]
    · exact absurd (kyL_inj ha hb (WideAt.sameKey_eq h)) e
theorem lefK_stay {ba : List (Int × Int)} {ks : List Kyy} {left : Lit → Bool} {k : Kyy} (hok : ∀ k ∈ ks, KyOk k) (hk : KyOk k) (hp : pasB ba k = false) : lefK ba ks (fun z => left z && !z.sameKey (kyL k)) = lefK ba ks left := by
  unfold lefK
  apply List.filter_congr
  intro j hj
  dsimp only
  rw [same_iff (hok j hj) hk]
  by_cases e : j = k
  · subst e; rw [hp]; simp
  · simp [e]
theorem lefK_gone {ba : List (Int × Int)} {ks : List Kyy} {left : Lit → Bool} {k : Kyy} (hok : ∀ k ∈ ks, KyOk k) (hk : KyOk k) (hp : pasB ba k = true) : lefK ba ks (fun z => left z && !z.sameKey (kyL k)) = (lefK ba ks left).filter fun j => decide (j ≠ k) := by
  unfold lefK
  rw [List.filter_filter]
  apply List.filter_congr
  intro j hj
  dsimp only
  rw [same_iff (hok j hj) hk]
  by_cases e : j = k
  · subst e; rw [hp]; simp
  · simp [e]
/-- The way of drop. -/
structure Dw (w W : World) (K : Bkk) (S : Bsn) (r : Nat) (left : Lit → Bool) (cnt : Nat) (D : DataW Value) : Prop where
  rg : W.ranges Try.prog 47 hldV K.m r S.ks.length D left cnt
  dm : Dm D (lefK S.ba S.ks left) S.cv
  pw : Pw W K S
  fr : Frm (fun k => k = K.m) w W
  nr : w.heap.size ≤ r
theorem Dw.keep {w W W' : World} {K : Bkk} {S : Bsn} {r : Nat} {left : Lit → Bool} {cnt : Nat} {D : DataW Value} (h : Dw w W K S r left cnt D) (hb : Below W.heap.size W W') : Dw w W' K S r left cnt D := by
  refine ⟨?_, h.dm, h.pw.keep hb, h.fr.trans (frm_below hb), h.nr⟩
  obtain ⟨es, clock, since, seen, c0, h1, h2, h3, h4, h5, h6⟩ := h.rg
  have l1 : K.m < W.heap.size := (Array.getElem?_eq_some_iff.1 h1).1
  have l2 : r < W.heap.size := (Array.getElem?_eq_some_iff.1 h5).1
  exact ⟨es, clock, since, seen, c0, (hb.block _ l1).trans h1, h2, h3, h4, (hb.block _ l2).trans h5, h6⟩
theorem ky_inv2 : ∀ key kl, keyOf Try.prog 47 key = some kl → ∃ x : { k : Kyy // KyOk k }, key = kyV x.1 := fun key kl h => by
  obtain ⟨k, hk, rfl⟩ := ky_inv h
  exact ⟨⟨k, hk⟩, rfl⟩
theorem held_inv : ∀ (v : Value) (y : DataW Value × List MemPlace), hldV v = some y → ∃ c : Value, v = id c := fun v y h => ⟨v, rfl⟩
/-- 'delete' in a round, at one operation. -/
theorem delRW {P : Program} {H : Type} {o : Oper} {a : Act} {w : World} {KK : Act → World → Prop} {Q : Exit → Act → World → Prop} (d : Option Tmp) (hd : o.dst = d) (m x : Operand) (t k : TypeId) (hop : o.op = Op.call { callee := Callee.builtin Builtin.delete, args := #[m, x], argTypes := #[t, k] })
    (e : TypeId) (K : Keyed P k) (ht : P.underlying t = some (.map k e)) (R : Value → Option (DataW H × List MemPlace)) (b r n : Nat) (D : DataW H) (left : Lit → Bool) (cnt : Nat)
    (hm : a.eval m = .map (some b)) (h : w.ranges P k R b r n D left cnt) (key : Value) (kl : Lit) (hx : a.eval x = key) (hkey : keyOf P k key = some kl)
    (hK : ∀ w' cnt', w'.ranges P k R b r n (D.del kl) (fun z => left z && !z.sameKey kl) cnt' → cnt' ≤ cnt → w.mapTurned w' b → KK (a.put d (.tuple #[])) w') : o.wp P a w KK Q := by
  subst hd
  obtain ⟨w', cnt', hrun, r1, r2, r3⟩ := h.drop K ht hkey o.type
  unfold Oper.wp
  simp [execOp, hop, resolve, invoke, builtin, hm, hx, hrun, Result.andThen]
  exact hK w' cnt' r1 r2 r3
set_option maxHeartbeats 2000000 in
theorem badrop_any {B : Nat} {K : Bkk} {S : Bsn} (w : World) (h : Bq w B K S) :
    Calls Try.prog 25 #[bptr K] w fun e w' => e = .returned (.int .i64 ((S.ks.length : Int) - ((drpB S).ks.length : Int))) ∧ Bq w' B K (drpB S) ∧ Frm (bkB K) w w' := by
  obtain ⟨-, -, -, -, -, c5⟩ := h.cells w (Below.refl _ _)
  have hl := h.ce.len
  obtain ⟨D0, hO, hD⟩ := h.ce
  rw [hD.sz] at hO
  have HK : Hid (∀ k ∈ S.ks, KyOk k ∧ 0 ≤ k.1 ∧ k.1 < (S.ba.length : Int)) := h.ok.kk
  have HH : Hid (Bq w B K S) := h
  have HD : Hid (Dm D0 S.ks S.cv) := hD
  have HOK := okb_drp h.ok
  have hkl : S.ks.length ≤ 1024 := by have := h.ok.kl; have := h.ok.m1; omega
  have HP : Hid (Pw w K S) := h.pw
  have hnb : Hid (K.b ≠ K.m) := fun e => h.noB (.inr (.inr e))
  have hgm : Hid (K.gb ≠ K.m) := h.nbm
  clear h hD
  generalize hn : S.ks.length = n at *
  have HN : Hid (S.ks.length = n) := hn
  clear hn
  obtain ⟨b, m, gf, cf, gb, cb, vr⟩ := K
  try dsimp only at *
  go_enter Try.func25, Try.ntmps25
  go_wp2_with (first
    | (at_len; refine len_l rfl rfl _ rfl hl ?_)
    | (at_range; refine wpList_range_own _ rfl _ 73 rfl 47 54 keyed16 Try.underlying73 hldV m n D0 rfl hO ?_; intro w0 hrg0 hg0 hs0))
  go_frame
  have hD0 : Dw w w0 ⟨b, m, gf, cf, gb, cb, vr⟩ S w.heap.size (Maps.has D0) (Maps.size D0) D0 := by
    refine ⟨by rw [HN.out]; exact hrg0, ?_, ?_, ?_, Nat.le_refl _⟩
    · rw [lefK_0 (fun k hk => by rw [HD.out.hs k (HK.out k hk).1]; exact decide_eq_true hk)]
      exact HD.out
    · exact HP.out.keep ⟨hg0.os, hg0.tape, hg0.output, hg0.size, fun i hi => hg0.block i hi (by simp)⟩
    · exact frm_below ⟨hg0.os, hg0.tape, hg0.output, hg0.size, fun i hi => hg0.block i hi (by simp)⟩
  clear hrg0 hg0 hl c5 hO
  go_loopw [18] (fun _ wr => ∃ left cnt D, Dw w wr ⟨b, m, gf, cf, gb, cb, vr⟩ S w.heap.size left cnt D) (fun _ wr => wr.rangeLeft m w.heap.size)
  case atStart => exact ⟨_, _, _, hD0⟩
  case round =>
    clear hD0
    obtain ⟨left, cnt, D, hW⟩ := hrel
    have hrg := hW.rg
    rw [HN.out] at hrg
    have HW : Hid (Dw w wr ⟨b, m, gf, cf, gb, cb, vr⟩ S w.heap.size left cnt D) := hW
    clear hW
    go_wp2_with (at_next; refine wpList_next_ranges _ rfl _ rfl 47 keyed16 hldV (fun x : { k : Kyy // KyOk k } => kyV x.1) id ky_inv2 held_inv m w.heap.size n D left cnt rfl hrg ?_ ?_)
    · intro _ hl0
      have hW := HW.out
      have hOw := hrg.owns
      have hDE : Dm D (drpB S).ks (drpB S).cv := by
        have h1 := hW.dm
        rw [lefK_end hl0] at h1
        exact ⟨h1.sz, h1.hs, fun k hk z => by rw [h1.cl k hk z]; show _ = DataW.held (Value.agg (CA (kepC _ S.cv k))); unfold kepC; rw [if_pos (show k ∈ S.ks.filter (fun k => !pasB S.ba k) from hk)], h1.nd, h1.ok⟩
      have hQ : Bq wr B ⟨b, m, gf, cf, gb, cb, vr⟩ (drpB S) := by
        have hq := HH.out
        have hf : Frm (bkB ⟨b, m, gf, cf, gb, cb, vr⟩) w wr := hW.fr.mono fun k hk => .inr (.inr hk)
        exact hq.upd hf rfl rfl rfl rfl rfl (rw_at hq.fe (hW.fr.other _ hq.fe.lt hq.nfm)) (rw_at hq.be (hW.fr.other _ hq.be.lt hq.nbm)) ⟨D, tight16 hOw, hDE⟩ HOK
      have HF : Hid (Frm (bkB ⟨b, m, gf, cf, gb, cb, vr⟩) w wr) := hW.fr.mono fun k hk => .inr (.inr hk)
      have hl2 := hQ.ce.len
      have c5 : wr.cell? ⟨b, 5, none⟩ = some (.map (some m)) := hQ.blk.at rfl
      have HQ : Hid (Bq wr B ⟨b, m, gf, cf, gb, cb, vr⟩ (drpB S)) := hQ
      have hle : (drpB S).ks.length ≤ n := by rw [← HN.out]; exact List.length_filter_le _ _
      clear hW hOw hDE hQ hrg HW
      generalize hn2 : (drpB S).ks.length = n2 at *
      have HN2 : Hid ((drpB S).ks.length = n2) := hn2
      clear hn2
      go_wp2_with (at_len; refine len_l rfl rfl _ rfl hl2 ?_)
      go_ret
      exact ⟨by rw [HN2.out]; rfl, HQ.out, HF.out⟩
    · intro ka kb kc hk v kl yd yp w1 cnt1 hkey hlk hv hat hrg1 hlt hg1 hs1 hen
      obtain ⟨k, hke⟩ : ∃ k : Kyy, k = (ka, kb, kc) := ⟨_, rfl⟩
      rw [← hke] at hk hkey hen
      obtain rfl : kl = kyL k := by
        rw [key16 hk] at hkey
        exact (Option.some.inj hkey).symm
      have hW := HW.out
      have hmem : k ∈ lefK S.ba S.ks left := by
        have h1 := hW.dm.hs k hk
        rw [has_true_of_atKey hat] at h1
        exact of_decide_eq_true h1.symm
      have hkS := (List.mem_filter.1 hmem).1
      obtain ⟨-, k0, k1⟩ := HK.out k hkS
      have hokS : ∀ k ∈ S.ks, KyOk k := fun k hk => (HK.out k hk).1
      have hfr1 : Frm (fun k => k = m) w w1 := hW.fr.young (frm_grown (X := fun k => k = w.heap.size) hg1 rfl) (fun k hk e => by omega)
      have hP1 : Pw w1 ⟨b, m, gf, cf, gb, cb, vr⟩ S := by
        have hq := HH.out
        exact hq.pw.frm hfr1 hnb.out hgm.out
      have HT : Hid (Tidy D) := hrg.owns.tidy keyed16
      have HDM : Hid (Dm D (lefK S.ba S.ks left) S.cv) := hW.dm
      clear hW HW hlk hv hat hs1
      have hc5 : ∀ V, Below w1.heap.size w1 V → V.cell? ⟨b, 5, none⟩ = some (.map (some m)) := fun V hb => (hP1.blk.keep hb).at rfl
      subst hke
      unfold kyV at hen
      try dsimp only at hen k0 k1
      obtain ⟨A, hE, hX, hw⟩ := blk1 w1 #[.int .i64 ka, .int .i64 kb, .int .i64 kc] 47
      have y0 : A.cell? ⟨w1.heap.size, 0, none⟩ = some (.int .i64 ka) := hX.at rfl
      have y1 : A.cell? ⟨w1.heap.size, 1, none⟩ = some (.int .i64 kb) := hX.at rfl
      have y2 : A.cell? ⟨w1.heap.size, 2, none⟩ = some (.int .i64 kc) := hX.at rfl
      have HC := bapast_any (ka, kb, kc) A (hP1.keep hw) k0 k1
      unfold kyV at HC
      cases hp : pasB S.ba (ka, kb, kc)
      · rw [hp] at HC
        go_wp2_with (go_at_call 41; refine HC.mono ?_; rintro e W2 ⟨rfl, b2⟩)
        have bw := ab_trans hw b2
        have hN : Dw w W2 ⟨b, m, gf, cf, gb, cb, vr⟩ S w.heap.size (fun z => left z && !z.sameKey (kyL (ka, kb, kc))) cnt1 D := by
          have : Dw w w1 ⟨b, m, gf, cf, gb, cb, vr⟩ S w.heap.size (fun z => left z && !z.sameKey (kyL (ka, kb, kc))) cnt1 D :=
            ⟨by rw [HN.out]; exact hrg1, by rw [lefK_stay hokS hk hp]; exact HDM.out, hP1, hfr1, Nat.le_refl _⟩
          exact this.keep bw
        have hrN := hN.rg
        go_roundw
        case rel => exact ⟨_, _, _, hN⟩
        case measure => rw [hrN.left_eq, hrg.left_eq]; exact hlt
      · rw [hp] at HC
        go_upto_region 6 with (go_at_call 41; refine HC.mono ?_; rintro e W2 ⟨rfl, b2⟩)
        have bw := ab_trans hw b2
        have hX2 := hX.keep b2
        have c5 := hc5 _ bw
        have g0 : W2.cell? ⟨w1.heap.size, 0, none⟩ = some (.int .i64 ka) := hX2.at rfl
        have g1 : W2.cell? ⟨w1.heap.size, 1, none⟩ = some (.int .i64 kb) := hX2.at rfl
        have g2 : W2.cell? ⟨w1.heap.size, 2, none⟩ = some (.int .i64 kc) := hX2.at rfl
        refine wp_region_held_drew (S := fun w' => w'.cell? ⟨b, 5, none⟩ = some (.map (some m)) ∧ w'.cell? ⟨w1.heap.size, 0, none⟩ = some (.int .i64 ka) ∧ w'.cell? ⟨w1.heap.size, 1, none⟩ = some (.int .i64 kb) ∧ w'.cell? ⟨w1.heap.size, 2, none⟩ = some (.int .i64 kc)) (by kernel_rfl) ⟨c5, g0, g1, g2⟩ (fun hHeld => ?_)
        have bV : Below w1.heap.size w1 W2.drew := ab_drew bw
        have hXV : Blk W2.drew w1.heap.size #[.int .i64 ka, .int .i64 kb, .int .i64 kc] 47 := hX2
        clear c5 g0 g1 g2 hX2 bw b2 y0 y1 y2 hE hX hw
        generalize W2.drew = V at *
        refine takeH (i := 0) (some 22) rfl rfl (by kernel_rfl) (by kernel_rfl) (by kernel_rfl) (fun _ _ _ h => h) (by rfl) (fun w hSw => by (try dsimp only at hSw); go_simp; try rfl) hHeld ?_
        go_frame
        refine takeH (i := 1) (some 23) rfl rfl (by kernel_rfl) (by kernel_rfl) (by kernel_rfl) (fun _ _ _ h => h) (by rfl) (fun w hSw => by (try dsimp only at hSw); go_simp; try rfl) hHeld ?_
        go_frame
        refine takeH (i := 2) (some 24) rfl rfl (by kernel_rfl) (by kernel_rfl) (by kernel_rfl) (fun _ _ _ h => h) (by rfl) (fun w hSw => by (try dsimp only at hSw); go_simp; try rfl) hHeld ?_
        go_frame
        refine takeH (i := 3) (some 25) rfl rfl (by kernel_rfl) (by kernel_rfl) (by kernel_rfl) (fun _ _ _ h => h) (by rfl) (fun w hSw => by (try dsimp only at hSw); (obtain ⟨q5, q0, q1, q2⟩ := hSw; go_simp; try rfl)) hHeld ?_
        go_frame
        refine takeH (i := 4) (some 26) rfl rfl (by kernel_rfl) (by kernel_rfl) (by kernel_rfl) (fun _ _ _ h => h) (by rfl) (fun w hSw => by (try dsimp only at hSw); (obtain ⟨q5, q0, q1, q2⟩ := hSw; go_simp; try rfl)) hHeld ?_
        go_frame
        have hD1 : Dw w w1 ⟨b, m, gf, cf, gb, cb, vr⟩ S w.heap.size (fun z => left z && !z.sameKey (kyL (ka, kb, kc))) cnt1 D → True := fun _ => trivial
        have hrV : V.ranges Try.prog 47 hldV m w.heap.size n D (fun z => left z && !z.sameKey (kyL (ka, kb, kc))) cnt1 := by
          obtain ⟨es, clock, since, seen, c0, h1, h2, h3, h4, h5, h6⟩ := hrg1
          have l1 : m < w1.heap.size := (Array.getElem?_eq_some_iff.1 h1).1
          have l2 : w.heap.size < w1.heap.size := (Array.getElem?_eq_some_iff.1 h5).1
          exact ⟨es, clock, since, seen, c0, (bV.block _ l1).trans h1, h2, h3, h4, (bV.block _ l2).trans h5, h6⟩
        refine wpAnyH_ready (rs := [5]) (by kernel_rfl) (by simp) (AllReadyH.cons rfl (fun K hK => ?_) AllReadyH.nil)
        rw [if_pos (by rfl)]
        refine delRW _ rfl _ _ 73 47 rfl 54 keyed16 Try.underlying73 hldV m w.heap.size n D _ cnt1 rfl hrV (kyV (ka, kb, kc)) (kyL (ka, kb, kc)) rfl (key16 hk) ?_
        intro W3 cnt3 hr3 hle3 ht3
        rw [strike_twice] at hr3
        have hF3 : Frm (fun k => k = m) V W3 := frm_grown ht3.grown rfl
        have hPV := hP1.keep bV
        have hP3 : Pw W3 ⟨b, m, gf, cf, gb, cb, vr⟩ S := hPV.frm hF3 hnb.out hgm.out
        have hmlt : w1.heap.size ≠ m := by
          obtain ⟨es, clock, since, seen, c0, h1, h2⟩ := hrg1
          have l1 : m < w1.heap.size := (Array.getElem?_eq_some_iff.1 h1).1
          omega
        have hX3 := hXV.frm hF3 hmlt
        have hN : Dw w W3 ⟨b, m, gf, cf, gb, cb, vr⟩ S w.heap.size (fun z => left z && !z.sameKey (kyL (ka, kb, kc))) cnt3 (D.del (kyL (ka, kb, kc))) :=
          ⟨by rw [HN.out]; exact hr3, by rw [lefK_gone hokS hk hp]; exact HDM.out.del HT.out hmem, hP3, (hfr1.trans (frm_below bV)).trans hF3, Nat.le_refl _⟩
        refine hK.out _ _ ⟨hP3.blk.at rfl, hX3.at rfl, hX3.at rfl, hX3.at rfl⟩ (fun hHeld => ?_)
        refine wpAnyH_done (by kernel_rfl) ?_ _
        clear hK K
        have hrN := hN.rg
        go_wp2_with fail
        go_roundw
        case rel => exact ⟨_, _, _, hN⟩
        case measure => rw [hrN.left_eq, hrg.left_eq]; omega
end Go.Proofs.Ytfnageillhpjpaa
namespace Go.Proofs.Ytfnageillhpjpaa
open Go.RowKit Go.Maps
set_option linter.unusedVariables false
set_option maxRecDepth 100000

def E3k : En Kyy := ⟨3, fun p => [.int .i64 p.1, .int .i64 p.2.1, .int .i64 p.2.2], fun _ => rfl, fun x u hu => by simp at hu; rcases hu with rfl | rfl | rfl <;> rfl, by omega⟩
theorem e3k_flat (l : List Kyy) : E3k.fl l = flat3 l := rfl
def zKy : Kyy := (0, 0, 0)
theorem zeroId (w : World) : (zeroValue 47).run Try.prog w = .ok (.agg #[.int .i64 0, .int .i64 0, .int .i64 0]) w := by kernel_rfl
theorem eltId : Try.prog.underlying 44 = some (.slice (Try.prog.elem 44)) := by kernel_rfl
theorem sizeId (w : World) : (sizeOf (Try.prog.elem 44)).run Try.prog w = .ok 3 w := by kernel_rfl
theorem info_id3 : (Try.prog.info? 47).map (·.size) = some 3 := by kernel_rfl
/-- A name of one of the lanes. -/
def LaK (S : Bsn) (k : Kyy) : Prop := 0 ≤ k.1 ∧ k.1 < (S.ba.length : Int)
/-- A row of names turns. -/
theorem Pw.chgK {W W' : World} {K : Bkk} {S : Bsn} {g : Nat} (h : Pw W K S) (hc : Chg g W W') (hk : kindR W g 47) : Pw W' K S := by
  have h1 : K.b ≠ g := fun e => absurd (h.blk.kindR.uniq (e ▸ hk)) (by decide)
  have h2 : K.gb ≠ g := fun e => absurd ((rw_kind h.be).uniq (e ▸ hk)) (by decide)
  exact ⟨h.blk.chg hc h1, rw_at h.be (hc.other _ h2)⟩
/-- The function value that pour hands over. -/
abbrev pasV (K : Bkk) : Value := .func (.func 41) #[bptr K] #[]
theorem bapast1_any {K : Bkk} {S : Bsn} (o : Kyy) (w : World) (h : Pw w K S) (hf : LaK S o) : Calls Try.prog 41 #[bptr K, kyV o] w fun e w' => e = .returned (.bool (pasB S.ba o)) ∧ Below w.heap.size w w' := bapast_any o w h hf.1 hf.2
/-- A name into a row of them. -/
theorem st_rwK {ops : Array Oper} {rest : List Oper} {o : Oper} {a : Act} {w : World} {Q : Exit → Act → World → Prop} (hw : Region.wanted o (yielded ops a.tmps) = true) {x y : Operand} (ho : o.op = .store 47 x y) {g cap i : Nat} {L : List Kyy} {c : Kyy} (h : Rw E3k 47 w g cap L) (hi : i < L.length) (hx : a.eval x = .pointer (some ⟨g, i * 3, none⟩)) (hy : a.eval y = kyV c)
    (hK : ∀ W', Rw E3k 47 W' g cap (L.set i c) → Chg g w W' → wpList Try.prog ops Q rest (a.put o.dst undef) W') : wpList Try.prog ops Q (o :: rest) a w := by
  unfold wpList
  rw [if_pos hw]
  left
  exact stEW o.dst rfl ho h hi c #[.int .i64 c.1, .int .i64 c.2.1, .int .i64 c.2.2] rfl rfl hx hy info_id3 hK
/-- clear, where its run is known. -/
theorem clrB_l {P : Program} {ops : Array Oper} {rest : List Oper} {o : Oper} {a : Act} {w : World} {Q : Exit → Act → World → Prop} (hw : Region.wanted o (yielded ops a.tmps) = true) {x : Operand} {t : TypeId} (ho : o.op = .call { callee := .builtin .clear, args := #[x], argTypes := #[t] }) (v : Value) (hx : a.eval x = v) {v' : Value} {w' : World}
    (hr : ∀ ty, (Builtin.clear_ #[t] ty #[v]).run P w = .ok v' w') (h : wpList P ops Q rest (a.put o.dst v') w') : wpList P ops Q (o :: rest) a w := by
  unfold wpList
  rw [if_pos hw]
  left
  unfold Oper.wp execOp
  simp only [ho, resolve, invoke, builtin, Sem.run_bind, Sem.run_pure, Result.andThen_ok, List.map_toArray, List.map_cons, List.map_nil, hx, hr]
  exact h
set_option maxHeartbeats 1000000 in
theorem baindex_any (v : Value) (l : List Kyy) {K : Bkk} {S : Bsn} (w : World) (hv : ER E3k w v l) (h : Pw w K S) (hf : ∀ o ∈ l, LaK S o) (hl : l.length ≤ 100000) :
    Calls Try.prog 59 #[v, pasV K] w fun e w' => ∃ i : Int, e = .returned (.int .i64 i) ∧ ((i = -1 ∧ ∀ o ∈ l, pasB S.ba o = false) ∨ (∃ k : Nat, i = (k : Int) ∧ k < l.length ∧ (∀ o ∈ l.take k, pasB S.ba o = false) ∧ ∀ o, l[k]? = some o → pasB S.ba o = true)) ∧ Below w.heap.size w w' := by
  obtain ⟨q, cap, g, off, rfl, hc, hm, hp, hr⟩ := hv.at
  generalize hn : l.length = n at *
  go_enter Try.func59, Try.ntmps59
  go_wp2_with fail
  go_loopw [8] (fun i wr => ∃ k : Nat, k ≤ n ∧ i = .int .i64 (k : Int) ∧ (∀ x ∈ l.take k, pasB S.ba x = false) ∧ Below w.heap.size w wr) (fun i _ => n - (intOf i).toNat)
  case atStart => exact ⟨0, by omega, rfl, fun x hx => by simp at hx, Below.refl _ _⟩
  case round =>
    obtain ⟨k, hk, rfl, hall, hw⟩ := hrel
    by_cases c : k = n
    · subst c
      have HV : Hid (∀ o ∈ l, pasB S.ba o = false) := by
        rw [List.take_of_length_le (by omega)] at hall
        exact hall
      clear hall hr
      go_wp2_with fail
      go_ret
      exact ⟨-1, rfl, .inl ⟨rfl, HV.out⟩, hw⟩
    · obtain ⟨o, ho⟩ : ∃ o, l[k]? = some o := ⟨l[k], List.getElem?_eq_getElem (by omega)⟩
      obtain ⟨rfl, hgk⟩ := hp (by omega)
      have z0 := keep_cell hw (hr k o ho 0 _ rfl) hgk
      have z1 := keep_cell hw (hr k o ho 1 _ rfl) hgk
      have z2 := keep_cell hw (hr k o ho 2 _ rfl) hgk
      rw [Nat.add_zero, show E3k.k = 3 from rfl] at z0
      rw [show E3k.k = 3 from rfl] at z1 z2
      have hki : (k : Int) < (n : Int) := by omega
      have hcw := h.keep hw
      have hfo := hf o (List.mem_of_getElem? ho)
      have HC := bapast1_any o wr hcw hfo
      unfold kyV at HC
      cases hcv : pasB S.ba o
      · have HV : Hid (∀ x ∈ l.take (k + 1), pasB S.ba x = false) := by
          intro x hm
          rw [List.take_add_one, ho] at hm
          simp only [Option.toList_some, List.mem_append, List.mem_singleton] at hm
          rcases hm with hm | rfl
          · exact hall x hm
          · exact hcv
        rw [hcv] at HC
        clear hall hr
        go_wp2_with (go_at_call 41; refine HC.mono ?_; rintro e W2 ⟨rfl, b2⟩)
        go_roundw
        case rel => exact ⟨k + 1, by omega, by go_num, HV.out, ab_trans hw b2⟩
        case measure => simp [intOf]; omega
      · have HA : Hid (∀ o ∈ l.take k, pasB S.ba o = false) := hall
        have HB : Hid (∀ x, l[k]? = some x → pasB S.ba x = true) := fun x hx => by rw [ho] at hx; cases hx; exact hcv
        rw [hcv] at HC
        clear hall hr
        go_wp2_with (go_at_call 41; refine HC.mono ?_; rintro e W2 ⟨rfl, b2⟩)
        go_ret
        exact ⟨(k : Int), rfl, .inr ⟨k, rfl, by omega, HA.out, HB.out⟩, ab_trans hw b2⟩
/-- How far DeleteFunc has come. -/
structure DlK (l L : List Kyy) (p : Kyy → Bool) (i j : Nat) : Prop where
  len : L.length = l.length
  lt : i < j
  le : j ≤ l.length
  fst : L.take i = (l.take j).filter p
  lst : L.drop j = l.drop j
theorem DlK.i {l L : List Kyy} {p : Kyy → Bool} {i j : Nat} (h : DlK l L p i j) : i = ((l.take j).filter p).length := by
  rw [← h.fst, List.length_take, h.len, Nat.min_eq_left (by have := h.lt; have := h.le; omega)]
theorem filt_snocK {l : List Kyy} {p : Kyy → Bool} {j : Nat} {o : Kyy} (ho : l[j]? = some o) : (l.take (j + 1)).filter p = (l.take j).filter p ++ (if p o = true then [o] else []) := by
  rw [List.take_add_one, ho, List.filter_append]
  congr 1
  simp only [Option.toList_some, List.filter_cons, List.filter_nil]
theorem DlK.at {l L : List Kyy} {p : Kyy → Bool} {i j : Nat} (h : DlK l L p i j) (hj : j < l.length) : L[j]? = l[j]? := by
  have e1 := List.getElem?_drop (xs := L) (i := j) (j := 0)
  have e2 := List.getElem?_drop (xs := l) (i := j) (j := 0)
  rw [Nat.add_zero] at e1 e2
  rw [← e1, ← e2, h.lst]
theorem DlK.skip {l L : List Kyy} {p : Kyy → Bool} {i j : Nat} {o : Kyy} (h : DlK l L p i j) (ho : l[j]? = some o) (hp : p o = false) : DlK l L p i (j + 1) := by
  have hj := (List.getElem?_eq_some_iff.1 ho).1
  refine ⟨h.len, by have := h.lt; omega, hj, ?_, ?_⟩
  · rw [filt_snocK ho, hp, h.fst]; simp
  · rw [← List.drop_drop, ← List.drop_drop, h.lst]
theorem DlK.take {l L : List Kyy} {p : Kyy → Bool} {i j : Nat} {o : Kyy} (h : DlK l L p i j) (ho : l[j]? = some o) (hp : p o = true) : DlK l (L.set i o) p (i + 1) (j + 1) := by
  have hj := (List.getElem?_eq_some_iff.1 ho).1
  have hlt := h.lt
  have hi : i < L.length := by rw [h.len]; omega
  refine ⟨by rw [List.length_set, h.len], by omega, hj, ?_, ?_⟩
  · rw [filt_snocK ho, hp, ← h.fst, List.take_add_one, List.take_set_of_le (Nat.le_refl _), List.getElem?_set_self hi]; simp
  · rw [List.drop_set_of_lt (by omega), ← List.drop_drop, ← List.drop_drop, h.lst]
theorem DlK.start {l : List Kyy} {p : Kyy → Bool} {k : Nat} (hk : k < l.length) (h1 : ∀ o ∈ l.take k, p o = true) (h2 : ∀ o, l[k]? = some o → p o = false) : DlK l l p k (k + 1) := by
  obtain ⟨o, ho⟩ : ∃ o, l[k]? = some o := ⟨l[k], List.getElem?_eq_getElem hk⟩
  refine ⟨rfl, by omega, hk, ?_, rfl⟩
  rw [filt_snocK ho, h2 o ho, List.filter_eq_self.2 h1]; simp
set_option maxHeartbeats 2000000 in
theorem badelete_any (l : List Kyy) (v : Value) {B : Nat} {K : Bkk} {S : Bsn} (w : World) (hO : EO E3k 47 w B v l) (h : Pw w K S) (hf : ∀ o ∈ l, LaK S o) (hl : l.length ≤ 100000) :
    Calls Try.prog 51 #[v, pasV K] w fun e w' => ∃ v', e = .returned v' ∧ EO E3k 47 w' B v' (l.filter fun o => !pasB S.ba o) ∧ Frm (fun k => v.ownBlock = some k) w w' ∧ ∀ r, v'.ownBlock = some r → v.ownBlock = some r := by
  obtain ⟨q, cap, g, off, rfl, hc, hm, hp, -⟩ := hO.er
  have HO : Hid (EO E3k 47 w B (.slice q l.length cap) l) := hO
  have hER := hO.er
  clear hO
  go_enter Try.func51, Try.ntmps51
  go_upto_region 2 with (go_at_call 59; refine (baindex_any _ l _ hER h hf hl).mono ?_; rintro e W1 ⟨i, rfl, hi, b1⟩)
  have HO1 : Hid (EO E3k 47 W1 B (.slice q l.length cap) l) := HO.out.keep b1
  have h1 := h.keep b1
  have hfr1 : Frm (fun k => (Value.slice q l.length cap).ownBlock = some k) w W1 := frm_below b1
  clear h HO hER b1
  rcases hi with ⟨rfl, hall⟩ | ⟨k, rfl, hk, hbef, hat⟩
  · have HV : Hid (l.filter (fun o => !pasB S.ba o) = l) := by
      show _ = _
      rw [List.filter_eq_self]
      intro o ho
      rw [hall o ho]; rfl
    clear hall
    go_wp2_with fail
    go_ret
    exact ⟨_, rfl, by rw [HV.out]; exact HO1.out, hfr1, fun r hr => hr⟩
  · have hD0 : DlK l l (fun o => !pasB S.ba o) k (k + 1) := DlK.start hk (fun o ho => by rw [hbef o ho]; rfl) (fun o ho => by rw [hat o ho]; rfl)
    obtain ⟨rfl, -⟩ := hp (by omega)
    clear hbef hat hp
    have hoff : off = 0 := by
      have := HO1.out.2
      rcases this with ⟨h2, _⟩ | ⟨g', cap', cur, e1, _⟩
      · cases h2
      · cases e1; rfl
    subst hoff
    obtain ⟨hR1, hBg⟩ := HO1.out.rw
    have hkm : ¬ ((k : Int) = -1) := by omega
    generalize hn : l.length = n at *
    clear HO1
    go_wp2_with fail
    go_loopw [5, 6] (fun x y wr => ∃ (i j : Nat) (L : List Kyy), x = .int .i64 (i : Int) ∧ y = .int .i64 (j : Int) ∧ DlK l L (fun o => !pasB S.ba o) i j ∧ Rw E3k 47 wr g cap L ∧ Pw wr K S ∧ Frm (fun k => (Value.slice (some ⟨g, 0, none⟩) n cap).ownBlock = some k) w wr) (fun _ y _ => n - (intOf y).toNat)
    case atStart => exact ⟨k, k + 1, l, rfl, by go_num, hD0, hR1, h1, hfr1⟩
    case round =>
      clear hD0 hR1 h1 hfr1
      obtain ⟨i, j, L, rfl, rfl, hD, hR, hC, hF⟩ := hrel
      have hLl := hD.len
      have hij := hD.lt
      have hjn := hD.le
      rw [hn] at hLl hjn
      by_cases c : j = n
      · subst c
        have hnc := hR.1
        rw [hLl] at hnc
        obtain ⟨o', es, ho'⟩ := sliced_some g 0 i j cap 3
        have ho2 := ho' (by omega)
        rw [Nat.zero_add] at ho2
        subst ho2
        have hcl := fun (ty : TypeId) => rw_clear (P := Try.prog) (ty := ty) (c := cap - i) zKy rfl Try.underlying44 zeroId hR (i := i) (n := j - i) (by omega) (by omega)
        obtain ⟨W2, hr2, hR2, C2⟩ := hcl 0
        have hr2' : ∀ ty, (Builtin.clear_ #[44] ty #[.slice (some ⟨g, i * 3, none⟩) (j - i) (cap - i)]).run Try.prog wr = .ok (.tuple #[]) W2 := fun ty => hr2
        have HR2 := hR2.eo hBg (i := i) (by rw [List.length_append, List.length_append, List.length_take, List.length_replicate]; omega)
        have HT : Hid (EO E3k 47 W2 B (.slice (some ⟨g, 0, none⟩) i cap) (l.filter fun o => !pasB S.ba o)) := by
          have e1 : (L.take i ++ List.replicate (j - i) zKy ++ L.drop (i + (j - i))).take i = L.take i := by
            rw [List.append_assoc, List.take_left' (by rw [List.length_take]; omega)]
          rw [e1, hD.fst, List.take_of_length_le (by omega)] at HR2
          exact HR2
        have hF2 := hF.trans (frm_chg (X := fun k => (Value.slice (some ⟨g, 0, none⟩) j cap).ownBlock = some k) C2 rfl)
        clear hcl hr2 hR2 HR2 hR hC C2 hD hF ho'
        go_wp2_with (first
          | (refine valS rfl _ (slo_l (o' := i * 3) rfl rfl rfl rfl eltId (sizeId _) (by omega) (by omega) es) ?_)
          | (refine valS rfl _ (slo_h rfl rfl rfl rfl eltId (sizeId _) (by omega)) ?_)
          | (refine clrB_l rfl rfl _ rfl hr2' ?_))
        go_ret
        exact ⟨_, rfl, HT.out, hF2, fun r hr => hr⟩
      · have hji : (j : Int) < (n : Int) := by omega
        obtain ⟨o, ho⟩ : ∃ o, l[j]? = some o := ⟨l[j], List.getElem?_eq_getElem (by omega)⟩
        have hoL : L[j]? = some o := by rw [hD.at (by omega)]; exact ho
        have z0 : wr.cell? ⟨g, j * 3, none⟩ = some (.int .i64 o.1) := hR.cell (i := 0) hoL rfl
        have z1 : wr.cell? ⟨g, j * 3 + 1, none⟩ = some (.int .i64 o.2.1) := hR.cell (i := 1) hoL rfl
        have z2 : wr.cell? ⟨g, j * 3 + 2, none⟩ = some (.int .i64 o.2.2) := hR.cell (i := 2) hoL rfl
        obtain ⟨A, hE, hX, hw⟩ := blk1 wr #[.int .i64 o.1, .int .i64 o.2.1, .int .i64 o.2.2] 47
        have HC := bapast1_any o A (hC.keep hw) (hf o (List.mem_of_getElem? ho))
        have y0 : A.cell? ⟨wr.heap.size, 0, none⟩ = some (.int .i64 o.1) := hX.at rfl
        have y1 : A.cell? ⟨wr.heap.size, 1, none⟩ = some (.int .i64 o.2.1) := hX.at rfl
        have y2 : A.cell? ⟨wr.heap.size, 2, none⟩ = some (.int .i64 o.2.2) := hX.at rfl
        unfold kyV at HC
        cases hcv : pasB S.ba o
        · rw [hcv] at HC
          go_upto_region 9 with (go_at_call 41; refine HC.mono ?_; rintro e W2 ⟨rfl, b2⟩)
          have HD : Hid (DlK l (L.set i o) (fun o => !pasB S.ba o) (i + 1) (j + 1)) := hD.take ho (by rw [hcv]; rfl)
          have hX2 := hX.keep b2
          have g0 : W2.cell? ⟨wr.heap.size, 0, none⟩ = some (.int .i64 o.1) := hX2.at rfl
          have g1 : W2.cell? ⟨wr.heap.size, 1, none⟩ = some (.int .i64 o.2.1) := hX2.at rfl
          have g2 : W2.cell? ⟨wr.heap.size, 2, none⟩ = some (.int .i64 o.2.2) := hX2.at rfl
          have bw := ab_trans hw b2
          have hR2 := hR.keep bw
          have hC2 := hC.keep bw
          have hF2 := hF.trans (frm_below bw)
          have hin : (i : Int) < (n : Int) := by omega
          have hiL : i < L.length := by omega
          clear hE y0 y1 y2 z0 z1 z2 hD HC hw b2 hX hR hC hF hX2
          go_wp2_with (refine st_rwK rfl rfl (c := o) hR2 hiL rfl rfl ?_; intro W3 hR3 C3)
          have hC3 := hC2.chgK C3 (rw_kind hR2)
          have hF3 := hF2.trans (frm_chg (X := fun k => (Value.slice (some ⟨g, 0, none⟩) n cap).ownBlock = some k) C3 rfl)
          refine ⟨⟨_, _, _, _, _, _, _, _, _, _, _, _, _, _, _, _, _, _, _, _, _, _, _, ?_, rfl⟩, ?_⟩
          · exact ⟨i + 1, j + 1, _, by go_num, by go_num, HD.out, hR3, hC3, hF3⟩
          · simp [intOf]; omega
        · have HD : Hid (DlK l L (fun o => !pasB S.ba o) i (j + 1)) := hD.skip ho (by rw [hcv]; rfl)
          rw [hcv] at HC
          clear hD
          go_wp2_with (go_at_call 41; refine HC.mono ?_; rintro e W2 ⟨rfl, b2⟩)
          have bw := ab_trans hw b2
          refine ⟨⟨_, _, _, _, _, _, _, _, _, _, _, _, _, _, _, _, _, _, _, _, _, _, _, ?_, rfl⟩, ?_⟩
          · exact ⟨i, j + 1, L, rfl, by go_num, HD.out, hR.keep bw, hC.keep bw, hF.trans (frm_below bw)⟩
          · simp [intOf]; omega
end Go.Proofs.Ytfnageillhpjpaa
namespace Go.Proofs.Ytfnageillhpjpaa
open Go.RowKit Go.Maps
set_option linter.unusedVariables false
set_option maxRecDepth 100000

theorem ld_ky {W : World} {g : Nat} {k : Kyy} {t : TypeId} (h : Blk W g #[.int .i64 k.1, .int .i64 k.2.1, .int .i64 k.2.2] t) : W.cell? ⟨g, 0, none⟩ = some (.int .i64 k.1) ∧ W.cell? ⟨g, 1, none⟩ = some (.int .i64 k.2.1) ∧ W.cell? ⟨g, 2, none⟩ = some (.int .i64 k.2.2) := ⟨h.at rfl, h.at rfl, h.at rfl⟩
/-- A look-up in a map, where its run is known. -/
theorem lkW {P : Program} {ρ : Operand → Value} {o : Oper} {t : TypeId} {x y : Operand} {b : Bool} (ho : o.op = .lookup t x y b) {mv kv v : Value} (hx : ρ x = mv) (hy : ρ y = kv) {w : World} (hr : (Instr.lookup t mv kv b).run P w = .ok v w) : (execOp ρ o).run P w = .ok (.value v) w := by
  unfold execOp
  simp only [ho, hx, hy, Sem.run_bind, hr, Result.andThen_ok, Sem.run_pure]
set_option maxHeartbeats 1000000 in
theorem bacell_any {B : Nat} {K : Bkk} {S : Bsn} (k : Kyy) (w : World) (h : Bq w B K S) (hk : KyOk k) :
    Calls Try.prog 10 #[bptr K, kyV k] w fun e w' => e = .returned (.tuple #[.agg (CA (S.cv k)), .bool (decide (k ∈ S.ks))]) ∧ Below w.heap.size w w' := by
  have HL : Hid (∀ V, Below w.heap.size w V → (Instr.lookup 73 (.map (some K.m)) (kyV k) true).run Try.prog V = .ok (.tuple #[.agg (CA (S.cv k)), .bool (decide (k ∈ S.ks))]) V) := fun V hb => (h.ce.keep hb).look hk (h.ok.cz k) true
  have HC : Hid (∀ V, Below w.heap.size w V → V.cell? ⟨K.b, 5, none⟩ = some (.map (some K.m))) := fun V hb => (h.cells V hb).2.2.2.2.2
  clear h
  generalize S.cv k = cc at *
  generalize decide (k ∈ S.ks) = bb at *
  obtain ⟨b, m, gf, cf, gb, cb, vr⟩ := K
  obtain ⟨ka, kb, kc⟩ := k
  try dsimp only at *
  obtain ⟨A1, hE, hX, hw1⟩ := blk1 w #[.int .i64 ka, .int .i64 kb, .int .i64 kc] 47
  unfold kyV at *
  go_enter Try.func10, Try.ntmps10
  go_upto_region 3 with (refine al_cell rfl rfl ?_; intro W1 e1 hR1 hg1)
  have hX1 := hX.keep hg1
  have hw := ab_trans hw1 hg1
  have hsz : w.heap.size + 1 = A1.heap.size := by rw [← hE]; simp
  have hz1 : w.heap.size < A1.heap.size := hX.lt
  have hz2 : A1.heap.size < W1.heap.size := hR1.lt
  rw [← e1]
  clear e1 hE
  refine wp_region_held_drew (S := fun w' => Below W1.heap.size W1 w') (by kernel_rfl) (ab_drew (Below.refl _ _)) (fun hHeld => ?_)
  refine takeH (i := 0) (some 12) rfl rfl (by kernel_rfl) (by kernel_rfl) (by kernel_rfl) (fun _ _ _ h => h) (by rfl) (fun w hSw => by (try dsimp only at hSw); go_simp; try rfl) hHeld ?_
  go_frame
  refine takeH (i := 1) (some 13) rfl rfl (by kernel_rfl) (by kernel_rfl) (by kernel_rfl) (fun _ _ _ h => h) (by rfl) (fun w hSw => by (try dsimp only at hSw); go_simp; try rfl) hHeld ?_
  go_frame
  refine takeH (i := 2) (some 14) rfl rfl (by kernel_rfl) (by kernel_rfl) (by kernel_rfl) (fun _ _ _ h => h) (by rfl) (fun w hSw => by (try dsimp only at hSw); go_simp; try rfl) hHeld ?_
  go_frame
  refine takeH (i := 3) (some 15) rfl rfl (by kernel_rfl) (by kernel_rfl) (by kernel_rfl) (fun _ _ _ h => h) (by rfl) (fun w hSw => by (try dsimp only at hSw); (have q5 := HC.out _ (ab_trans hw hSw); go_simp; try rfl)) hHeld ?_
  go_frame
  refine takeH (i := 4) (some 16) rfl rfl (by kernel_rfl) (by kernel_rfl) (by kernel_rfl) (fun _ _ _ h => h) (by rfl) (fun w hSw => by (try dsimp only at hSw); (obtain ⟨q0, q1, q2⟩ := ld_ky (k := (ka, kb, kc)) (hX1.keep hSw); dsimp only at q0 q1 q2; go_simp; try rfl)) hHeld ?_
  go_frame
  refine takeH (i := 5) (some 17) rfl rfl (by kernel_rfl) (by kernel_rfl) (by kernel_rfl) (fun _ _ _ h => h) (by rfl) (fun w hSw => by (try dsimp only at hSw); exact lkW rfl rfl rfl (HL.out _ (ab_trans hw hSw))) hHeld ?_
  go_frame
  refine takeH (i := 6) (some 11) rfl rfl (by kernel_rfl) (by kernel_rfl) (by kernel_rfl) (fun _ _ _ h => h) (by rfl) (fun w hSw => by (try dsimp only at hSw); go_simp; try rfl) hHeld ?_
  go_frame
  refine takeH (i := 7) (some 18) rfl rfl (by kernel_rfl) (by kernel_rfl) (by kernel_rfl) (fun _ _ _ h => h) (by rfl) (fun w hSw => by (try dsimp only at hSw); go_simp; try rfl) hHeld ?_
  go_frame
  refine takeH (i := 8) (some 19) rfl rfl (by kernel_rfl) (by kernel_rfl) (by kernel_rfl) (fun _ _ _ h => h) (by rfl) (fun w hSw => by (try dsimp only at hSw); go_simp; try rfl) hHeld ?_
  go_frame
  refine wpAnyH_ready (rs := [9]) (by kernel_rfl) (by simp) (AllReadyH.cons rfl (fun K hK => ?_) AllReadyH.nil)
  rw [if_pos (by rfl)]
  refine alW (some 6) rfl rfl (CA zc) (zero_cell _) fun W3 hX3 b3 => ?_
  have hs3 := hHeld.size
  refine hK.out _ _ (ab_trans hHeld b3) (fun hHeld => ?_)
  clear hK K
  go_frame
  refine wpAnyH_ready (rs := [10]) (by kernel_rfl) (by simp) (AllReadyH.cons rfl (fun K hK => ?_) AllReadyH.nil)
  rw [if_pos (by rfl)]
  refine stW none rfl rfl hX3 rfl rfl (info_cell _) (by rw [CA_size, CA_size]) (CA_one _) fun W4 hX4 C4 => ?_
  refine hK.out _ _ (ab_chg hHeld C4 hs3) (fun hHeld => ?_)
  clear hK K
  refine takeH (i := 11) (some 7) rfl rfl (by kernel_rfl) (by kernel_rfl) (by kernel_rfl) (fun _ _ _ h => h) (by rfl) (fun w hSw => by (try dsimp only at hSw); go_simp; try rfl) hHeld ?_
  go_frame
  refine wpAnyH_done (by kernel_rfl) ?_ _
  have hR4 := hR1.keep hHeld
  have hz4 : A1.heap.size ≠ W1.heap.size := by omega
  have hw4 := ab_trans hw hHeld
  go_wp2_with (first
    | (refine ld_cell rfl rfl hX4 rfl ?_)
    | (refine st_cell rfl rfl hR4 rfl rfl ?_; intro W5 hR5 C5))
  refine bodyPost_ret (results_c2 rfl _ _ _ 54 _ (0, 0) _ _ rfl rfl hR5 Try.underlying54 rfl (info_cell _)) rfl ⟨rfl, ab_chg hw4 C5 (by omega)⟩
end Go.Proofs.Ytfnageillhpjpaa
namespace Go.Proofs.Ytfnageillhpjpaa
open Go.RowKit Go.Maps
set_option linter.unusedVariables false
set_option maxRecDepth 100000

theorem misB_snoc {S : Bsn} {l : List Kyy} {j : Nat} {o : Kyy} (ho : l[j]? = some o) : misB S (l.take (j + 1)) = misB S (l.take j) + if o ∈ S.ks then 0 else 1 := by
  unfold misB
  rw [List.take_add_one, ho, List.filter_append, List.length_append]
  congr 1
  simp only [Option.toList_some, List.filter_cons, List.filter_nil]
  by_cases e : o ∈ S.ks <;> simp [e]
theorem misB_le (S : Bsn) (l : List Kyy) : misB S l ≤ l.length := List.length_filter_le _ _
set_option maxHeartbeats 1000000 in
theorem bamiss_any {B : Nat} {K : Bkk} {S : Bsn} (v : Value) (l : List Kyy) (w : World) (h : Bq w B K S) (hv : ER E3k w v l) (hl : l.length ≤ 1000) (hk : ∀ k ∈ l, KyOk k) :
    Calls Try.prog 53 #[bptr K, v] w fun e w' => e = .returned (.int .i64 ((misB S l : Nat) : Int)) ∧ Below w.heap.size w w' := by
  have HL : Hid (∀ V k, KyOk k → Below w.heap.size w V → (Instr.lookup 73 (.map (some K.m)) (kyV k) true).run Try.prog V = .ok (.tuple #[.agg (CA (S.cv k)), .bool (decide (k ∈ S.ks))]) V) := fun V k hk hb => (h.ce.keep hb).look hk (h.ok.cz k) true
  have HC : Hid (∀ V, Below w.heap.size w V → V.cell? ⟨K.b, 5, none⟩ = some (.map (some K.m))) := fun V hb => (h.cells V hb).2.2.2.2.2
  clear h
  obtain ⟨q, cap, g, off, rfl, hc, hm, hp, hr⟩ := hv.at
  obtain ⟨b, m, gf, cf, gb, cb, vr⟩ := K
  try dsimp only at *
  generalize hn : l.length = n at *
  go_enter Try.func53, Try.ntmps53
  go_wp2_with fail
  go_loopw [5, 12] (fun x i wr => ∃ k : Nat, k ≤ n ∧ i = .int .i64 (k : Int) ∧ x = .int .i64 ((misB S (l.take k) : Nat) : Int) ∧ Below w.heap.size w wr) (fun _ i _ => n - (intOf i).toNat)
  case atStart => exact ⟨0, by omega, rfl, rfl, Below.refl _ _⟩
  case round =>
    obtain ⟨k, hk', rfl, rfl, hw⟩ := hrel
    by_cases c : k = n
    · subst c
      have HV : Hid (misB S (l.take k) = misB S l) := by show _ = _; rw [List.take_of_length_le (by omega)]
      rw [HV.out]
      clear hr
      go_wp2_with fail
      go_ret
      exact ⟨rfl, hw⟩
    · obtain ⟨o, ho⟩ : ∃ o, l[k]? = some o := ⟨l[k], List.getElem?_eq_getElem (by omega)⟩
      obtain ⟨rfl, hgk⟩ := hp (by omega)
      have z0 := keep_cell hw (hr k o ho 0 _ rfl) hgk
      have z1 := keep_cell hw (hr k o ho 1 _ rfl) hgk
      have z2 := keep_cell hw (hr k o ho 2 _ rfl) hgk
      rw [Nat.add_zero, show E3k.k = 3 from rfl] at z0
      rw [show E3k.k = 3 from rfl] at z1 z2
      have hki : (k : Int) < (n : Int) := by omega
      have hko := hk o (List.mem_of_getElem? ho)
      have hml := misB_le S (l.take k)
      rw [List.length_take] at hml
      have HM : Hid (misB S (l.take (k + 1)) = misB S (l.take k) + if o ∈ S.ks then 0 else 1) := misB_snoc ho
      generalize misB S (l.take k) = mi at *
      obtain ⟨oa, ob, oc⟩ := o
      try dsimp only at z0 z1 z2
      obtain ⟨A, hE, hX, hwA⟩ := blk1 wr #[.int .i64 oa, .int .i64 ob, .int .i64 oc] 47
      have hwW := ab_trans hw hwA
      clear hr ho
      go_upto_region 5 with fail
      have hcv : ∀ V, Below A.heap.size A V → (Instr.lookup 73 (.map (some m)) (.agg #[.int .i64 oa, .int .i64 ob, .int .i64 oc]) true).run Try.prog V = .ok (.tuple #[.agg (CA (S.cv (oa, ob, oc))), .bool (decide ((oa, ob, oc) ∈ S.ks))]) V := fun V hb => HL.out V (oa, ob, oc) hko (ab_trans hwW hb)
      generalize S.cv (oa, ob, oc) = cc at *
      clear hE z0 z1 z2
      refine wp_region_held_drew (S := fun w' => Below A.heap.size A w') (by kernel_rfl) (ab_drew (Below.refl _ _)) (fun hHeld => ?_)
      refine takeH (i := 0) (some 17) rfl rfl (by kernel_rfl) (by kernel_rfl) (by kernel_rfl) (fun _ _ _ h => h) (by rfl) (fun w hSw => by (try dsimp only at hSw); go_simp; try rfl) hHeld ?_
      go_frame
      refine takeH (i := 1) (some 18) rfl rfl (by kernel_rfl) (by kernel_rfl) (by kernel_rfl) (fun _ _ _ h => h) (by rfl) (fun w hSw => by (try dsimp only at hSw); go_simp; try rfl) hHeld ?_
      go_frame
      refine takeH (i := 2) (some 19) rfl rfl (by kernel_rfl) (by kernel_rfl) (by kernel_rfl) (fun _ _ _ h => h) (by rfl) (fun w hSw => by (try dsimp only at hSw); go_simp; try rfl) hHeld ?_
      go_frame
      refine takeH (i := 3) (some 20) rfl rfl (by kernel_rfl) (by kernel_rfl) (by kernel_rfl) (fun _ _ _ h => h) (by rfl) (fun w hSw => by (try dsimp only at hSw); (have q5 := HC.out _ (ab_trans hwW hSw); go_simp; try rfl)) hHeld ?_
      go_frame
      refine takeH (i := 4) (some 21) rfl rfl (by kernel_rfl) (by kernel_rfl) (by kernel_rfl) (fun _ _ _ h => h) (by rfl) (fun w hSw => by (try dsimp only at hSw); (obtain ⟨q0, q1, q2⟩ := ld_ky (k := (oa, ob, oc)) (hX.keep hSw); dsimp only at q0 q1 q2; go_simp; try rfl)) hHeld ?_
      go_frame
      refine takeH (i := 5) (some 22) rfl rfl (by kernel_rfl) (by kernel_rfl) (by kernel_rfl) (fun _ _ _ h => h) (by rfl) (fun w hSw => by (try dsimp only at hSw); exact lkW rfl rfl rfl (hcv _ hSw)) hHeld ?_
      go_frame
      refine takeH (i := 6) (some 16) rfl rfl (by kernel_rfl) (by kernel_rfl) (by kernel_rfl) (fun _ _ _ h => h) (by rfl) (fun w hSw => by (try dsimp only at hSw); go_simp; try rfl) hHeld ?_
      go_frame
      refine takeH (i := 7) (some 23) rfl rfl (by kernel_rfl) (by kernel_rfl) (by kernel_rfl) (fun _ _ _ h => h) (by rfl) (fun w hSw => by (try dsimp only at hSw); go_simp; try rfl) hHeld ?_
      go_frame
      refine takeH (i := 8) (some 24) rfl rfl (by kernel_rfl) (by kernel_rfl) (by kernel_rfl) (fun _ _ _ h => h) (by rfl) (fun w hSw => by (try dsimp only at hSw); go_simp; try rfl) hHeld ?_
      go_frame
      refine wpAnyH_ready (rs := [9]) (by kernel_rfl) (by simp) (AllReadyH.cons rfl (fun K hK => ?_) AllReadyH.nil)
      rw [if_pos (by rfl)]
      refine alW (some 8) rfl rfl (CA zc) (zero_cell _) fun W3 hX3 b3 => ?_
      have hs3 := hHeld.size
      refine hK.out _ _ (ab_trans hHeld b3) (fun hHeld => ?_)
      clear hK K
      go_frame
      refine wpAnyH_ready (rs := [10]) (by kernel_rfl) (by simp) (AllReadyH.cons rfl (fun K hK => ?_) AllReadyH.nil)
      rw [if_pos (by rfl)]
      refine stW none rfl rfl hX3 rfl rfl (info_cell _) (by rw [CA_size, CA_size]) (CA_one _) fun W4 hX4 C4 => ?_
      refine hK.out _ _ (ab_chg hHeld C4 hs3) (fun hHeld => ?_)
      clear hK K
      refine takeH (i := 11) (some 9) rfl rfl (by kernel_rfl) (by kernel_rfl) (by kernel_rfl) (fun _ _ _ h => h) (by rfl) (fun w hSw => by (try dsimp only at hSw); go_simp; try rfl) hHeld ?_
      go_frame
      refine wpAnyH_done (by kernel_rfl) ?_ _
      have hw4 := ab_trans hwW hHeld
      clear hcv hX3 hX4 C4 b3 hs3 hHeld
      by_cases e : (oa, ob, oc) ∈ S.ks
      · have HM' : Hid (misB S (l.take (k + 1)) = mi) := by show _ = _; rw [HM.out, if_pos e, Nat.add_zero]
        rw [decide_eq_true e]
        go_wp2_with fail
        go_roundw
        case rel => exact ⟨k + 1, by omega, by go_num, by rw [HM'.out], hw4⟩
        case measure => simp [intOf]; omega
      · have HM' : Hid (misB S (l.take (k + 1)) = mi + 1) := by show _ = _; rw [HM.out, if_neg e]
        rw [decide_eq_false e]
        go_wp2_with fail
        go_roundw
        case rel => exact ⟨k + 1, by omega, by go_num, by rw [HM'.out]; go_num, hw4⟩
        case measure => simp [intOf]; omega
/-- One cell of one of them stored. -/
theorem Rw.setc {α : Type} {E : En α} {e : TypeId} {W : World} {g cap i : Nat} {L : List α} {c c' : α} {j : Nat} {v : Value} (h : Rw E e W g cap L) (hi : L[i]? = some c) (hj : j < E.k) (hc : E.f c' = (E.f c).set j v) : Rw E e (W.setCell ⟨g, i * E.k + j, none⟩ v) g cap (L.set i c') := by
  obtain ⟨h1, h2, cur, hB, hs, ht⟩ := h
  obtain ⟨hlt, hge⟩ := List.getElem?_eq_some_iff.1 hi
  refine ⟨by rw [List.length_set]; exact h1, h2, _, hB.set _ _, by simpa using hs, ?_⟩
  have hA : (E.fl (L.take i)).length = i * E.k := by rw [E.fl_len, List.length_take, Nat.min_eq_left (by omega)]
  have e1 : E.fl L = E.fl (L.take i) ++ (E.f c ++ E.fl (L.drop (i + 1))) := by
    rw [← E.fl_cons, ← E.fl_append]
    congr 1
    conv => lhs; rw [← List.take_append_drop i L]
    rw [List.drop_eq_getElem_cons hlt, hge]
  rw [List.length_set, Array.toList_setIfInBounds, List.take_set, ht, e1, List.set_append_right _ _ (by omega), hA, Nat.add_sub_cancel_left, List.set_append_left _ _ (by rw [E.len]; exact hj), ← hc, ← E.fl_cons, ← E.fl_append]
  congr 1
  rw [List.set_eq_take_append_cons_drop, if_pos hlt]
theorem Rw.chgc {α : Type} {E : En α} {e : TypeId} {W : World} {g cap : Nat} {L : List α} (h : Rw E e W g cap L) (o : Nat) : W.frozen? ⟨g, o, none⟩ = false := by
  obtain ⟨h1, h2, cur, hB, hs, ht⟩ := h
  exact hB.frozen o
theorem bapunc_any {i g cap : Nat} {L : List Flw} {f : Flw} (t : Int) (w : World) (h : Rw E3f 71 w g cap L) (hi : L[i]? = some f) :
    Calls Try.prog 42 #[.pointer (some ⟨g, i * 3, none⟩), .int .i64 t] w fun e w' => e = .returned (.tuple #[]) ∧ Rw E3f 71 w' g cap (L.set i (pncF f t)) ∧ Chg g w w' := by
  have z1 : w.cell? ⟨g, i * 3 + 1, none⟩ = some (.int .i64 f.mt) := h.cell (i := 1) hi rfl
  have z2 : w.cell? ⟨g, i * 3 + 2, none⟩ = some (.bool f.md) := h.cell (i := 2) hi rfl
  have f1 := h.chgc (i * 3 + 1)
  have f2 := h.chgc (i * 3 + 2)
  have HY : Hid (Rw E3f 71 ((w.setCell ⟨g, i * 3 + 1, none⟩ (.int .i64 t)).setCell ⟨g, i * 3 + 2, none⟩ (.bool true)) g cap (L.set i { f with mt := t, md := true })) := by
    have hlt := (List.getElem?_eq_some_iff.1 hi).1
    have s1 := h.setc (c' := { f with mt := t }) (j := 1) (v := .int .i64 t) hi (by show 1 < 3; omega) rfl
    have s2 := s1.setc (i := i) (c := { f with mt := t }) (c' := { f with mt := t, md := true }) (j := 2) (v := .bool true) (List.getElem?_set_self hlt) (by show 2 < 3; omega) rfl
    rw [List.set_set] at s2
    exact s2
  have HC : Hid (Chg g w ((w.setCell ⟨g, i * 3 + 1, none⟩ (.int .i64 t)).setCell ⟨g, i * 3 + 2, none⟩ (.bool true))) := (chg_set _ _ _ _).trans (chg_set _ _ _ _)
  have HN : Hid (Rw E3f 71 w g cap (L.set i f)) := by show Rw _ _ _ _ _ _; rw [set_same hi]; exact h
  clear h hi
  obtain ⟨nx, mt, md⟩ := f
  try dsimp only at *
  cases md
  · have HF : Hid (pncF ⟨nx, mt, false⟩ t = ⟨nx, t, true⟩) := by show _ = _; unfold pncF; rw [if_pos (.inl rfl)]
    rw [HF.out]
    go_enter Try.func42, Try.ntmps42
    go_wp2_with fail
    exact bodyPost_end (results_none rfl _ _ _) rfl ⟨rfl, HY.out, HC.out⟩
  · by_cases c : mt < t
    · have HF : Hid (pncF ⟨nx, mt, true⟩ t = ⟨nx, t, true⟩) := by show _ = _; unfold pncF; rw [if_pos (.inr c)]
      rw [HF.out]
      go_enter Try.func42, Try.ntmps42
      go_wp2_with fail
      exact bodyPost_end (results_none rfl _ _ _) rfl ⟨rfl, HY.out, HC.out⟩
    · have HF : Hid (pncF ⟨nx, mt, true⟩ t = ⟨nx, mt, true⟩) := by show _ = _; unfold pncF; rw [if_neg (by rintro (e | e); exact Bool.noConfusion e; exact c e)]
      rw [HF.out]
      go_enter Try.func42, Try.ntmps42
      go_wp2_with fail
      exact bodyPost_end (results_none rfl _ _ _) rfl ⟨rfl, HN.out, Chg.refl _ _⟩
end Go.Proofs.Ytfnageillhpjpaa
