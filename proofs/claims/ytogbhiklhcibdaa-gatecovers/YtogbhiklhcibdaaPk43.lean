/-
  Basins in memory: their map of cells by name, their streams and bases.
  Basins in memory; the small functions of basin.
  Basin's calls that only read: Next, Mark, Base, Cell, past; lift.
  Basin's past, lift, Cell.
  Basin's drop: the cells ahead of their lanes' bases are gone.
  slices.IndexFunc and slices.DeleteFunc of names at basin's past.
  Basin's Cell and missing.
  Basin's List, over what ahead answers.
  Basin's missing; a flow's punctuate.
  Basin's pour.
  Basin's take.
  Basin's inForm and Raise.
  Basin's Raise and Feed.
  Plain mathematics: a sample is taken with all its cells, or not at all.
  slices.Repeat of one flow; basin.New.
  Basin's leastMark, Closed, Mark.
  Basin's ahead: the places of a lane's cells that are ahead of a place, as they are met.
  slices.SortFunc of at most one place; basin's List where there is at most one cell.
  A nil basin; the law's alive.
  Plain mathematics: a basin's cells are what the samples that it took come to.
  Plain mathematics: a basin that is fed with least cuts takes everything, as long as there is room.
-/
import Derived.Test.YtogbhiklhcibdaaPk39
import Derived.Test.YtogbhiklhcibdaaPk27
import Derived.Test.YtogbhiklhcibdaaPk17
import Derived.Test.YtogbhiklhcibdaaPk25
import Derived.Maps.OwnSet
import Derived.Maps.OwnOps
import Derived.Maps.RangeWalk
import Derived.DeepKeys4
import Derived.Test.YtogbhiklhcibdaaPk08
import Derived.Test.YtogbhiklhcibdaaPk28
import Derived.Test.YtogbhiklhcibdaaPk21
import Derived.Lib.MinMax
import Derived.Test.YtogbhiklhcibdaaPk34
namespace Go.Proofs.Ytogbhiklhcibdaa
open Go.RowKit Go.Maps
set_option linter.unusedVariables false
set_option maxRecDepth 100000

/-- How a map's element reads: as itself. -/
def hldV (v : Value) : Option (DataW Value × List MemPlace) := some (.held v, [])
def kyV (k : Kyy) : Value := .agg #[.int .i64 k.1, .int .i64 k.2.1, .int .i64 k.2.2]
def kyL (k : Kyy) : Lit := .string (keyBytes [.int .i64 k.1, .int .i64 k.2.1, .int .i64 k.2.2])
theorem laid16 : laidOutB Try.prog = true := by kernel_rfl
theorem row16 : (40 : TypeId) < Try.prog.types.size := of_decide_eq_true (by kernel_rfl)
theorem wide16 : (match Try.prog.underlying 40 with | some (.array _ _) | some (.struct _) => true | _ => false) = true := by kernel_rfl
theorem keyed16 : Keyed Try.prog 40 := Keyed.of_law (deep_law_laid laid16 (m := 3) (by omega) row16 (by kernel_rfl) wide16)
theorem lits_int (n : Nat) (x : Value) : Try.prog.keyLits (n + 1) 3 [x] = match x with | .int .i64 a => if (Lit.int .i64 a).wf = true then some [.int .i64 a] else none | _ => none := by
  unfold Program.keyLits
  rw [Try.underlying3]
  cases x with
  | int q a => cases q <;> simp
  | _ => simp
theorem cells_int16 : Try.prog.cellsOf 3 = 1 := by kernel_rfl
theorem cells_pl16 : Try.prog.cellsOf 24 = 2 := by kernel_rfl
theorem cells_id16 : Try.prog.cellsOf 40 = 3 := by kernel_rfl
theorem lits_pl (n : Nat) (x y : Value) : Try.prog.keyLits (n + 1 + 1) 24 [x, y] = (do let a ← Try.prog.keyLits (n + 1) 3 [x]; let b ← Try.prog.keyLits (n + 1) 3 [y]; pure (a ++ b)) := by
  conv => lhs; unfold Program.keyLits
  rw [Try.underlying24]
  simp [cells_int16, cells_pl16]
  cases Try.prog.keyLits (n + 1) 3 [x] <;> cases Try.prog.keyLits (n + 1) 3 [y] <;> simp
theorem lits_id (n : Nat) (x y z : Value) : Try.prog.keyLits (n + 1 + 1 + 1) 40 [x, y, z] = (do let a ← Try.prog.keyLits (n + 1 + 1) 3 [x]; let b ← Try.prog.keyLits (n + 1 + 1) 24 [y, z]; pure (a ++ b)) := by
  conv => lhs; unfold Program.keyLits
  rw [Try.underlying40]
  simp [cells_int16, cells_pl16, cells_id16]
  cases Try.prog.keyLits (n + 1 + 1) 3 [x] <;> cases Try.prog.keyLits (n + 1 + 1) 24 [y, z] <;> simp
theorem size16 : ∃ n, Try.prog.types.size + 1 = n + 1 + 1 + 1 := ⟨Try.prog.types.size - 2, by have : 2 ≤ Try.prog.types.size := of_decide_eq_true (by kernel_rfl); omega⟩
theorem j64_wf {a : Int} (h : J64 a) : (Lit.int .i64 a).wf = true := WalkArith.wf_i64 (by unfold J64 at h; omega)
theorem wf_j64 {a : Int} (h : (Lit.int .i64 a).wf = true) : J64 a := bounds_i64 h
theorem key16 {k : Kyy} (h : KyOk k) : keyOf Try.prog 40 (kyV k) = some (kyL k) := by
  obtain ⟨n, hn⟩ := size16
  obtain ⟨h1, h2, h3⟩ := h
  have hk : Try.prog.keyType 40 = true := by kernel_rfl
  have hf : (kyV k).formed Try.prog 40 = true := by simp [kyV, Value.formed, Try.underlying40, cells_id16]
  have hl : Try.prog.keyLits (Try.prog.types.size + 1) 40 (kyV k).cells.toList = some [.int .i64 k.1, .int .i64 k.2.1, .int .i64 k.2.2] := by
    rw [hn]
    show Try.prog.keyLits (n + 1 + 1 + 1) 40 [.int .i64 k.1, .int .i64 k.2.1, .int .i64 k.2.2] = _
    rw [lits_id, lits_pl, lits_int, lits_int, lits_int]
    simp [j64_wf h1, j64_wf h2, j64_wf h3]
  unfold keyOf
  rw [Try.underlying40]
  simp only [hk, hf, hl]
  rfl
theorem ky_inv {v : Value} {l : Lit} (h : keyOf Try.prog 40 v = some l) : ∃ k, KyOk k ∧ v = kyV k := by
  have h0 := h
  obtain ⟨xs, L, rfl, h1, -⟩ := keyOf_top wide16 h
  obtain ⟨n, hn⟩ := size16
  have hsz : xs.size = 3 := by
    unfold keyOf at h0
    rw [Try.underlying40] at h0
    simp only at h0
    split at h0
    · rename_i hf
      have := (Bool.and_eq_true_iff.1 hf).2
      simpa [Value.formed, Try.underlying40, cells_id16] using this
    · cases h0
  obtain ⟨xl⟩ := xs
  match xl, hsz with
  | [x, y, z], _ =>
    rw [hn] at h1
    have h2 : Try.prog.keyLits (n + 1 + 1 + 1) 40 [x, y, z] = some L := h1
    rw [lits_id, lits_pl, lits_int, lits_int, lits_int] at h2
    have key : ∀ u : Value, (match u with | .int .i64 a => if (Lit.int .i64 a).wf = true then some [Lit.int .i64 a] else none | _ => none) = none ∨ ∃ a, J64 a ∧ u = .int .i64 a := by
      intro u
      split
      · rename_i a
        by_cases hw : (Lit.int .i64 a).wf = true
        · exact .inr ⟨a, wf_j64 hw, rfl⟩
        · exact .inl (if_neg hw)
      · exact .inl rfl
    rcases key x with e | ⟨a, ha, rfl⟩
    · rw [e] at h2; cases h2
    rcases key y with e | ⟨b, hb, rfl⟩
    · rw [e] at h2; simp at h2
    rcases key z with e | ⟨c, hc, rfl⟩
    · rw [e] at h2; simp at h2
    exact ⟨(a, b, c), ⟨ha, hb, hc⟩, rfl⟩
theorem kyL_inj {a b : Kyy} (ha : KyOk a) (hb : KyOk b) (h : kyL a = kyL b) : a = b := by
  have := keyed16.inj (key16 ha) (h ▸ key16 hb)
  unfold kyV at this
  obtain ⟨a1, a2, a3⟩ := a
  obtain ⟨b1, b2, b3⟩ := b
  simpa using this
theorem kyL_ne {a b : Kyy} (ha : KyOk a) (hb : KyOk b) (h : a ≠ b) : kyL a ≠ kyL b := fun e => h (kyL_inj ha hb e)
theorem kyL_key (k : Kyy) : WideAt.IsKeyLit (kyL k) := trivial

/-- A map as read: its names, its cells. -/
structure Dm (D : DataW Value) (ks : List Kyy) (cv : Kyy → Nat → Int) : Prop where
  sz : Maps.size D = ks.length
  hs : ∀ k, KyOk k → Maps.has D (kyL k) = decide (k ∈ ks)
  cl : ∀ k ∈ ks, ∀ z, D.atKey (kyL k) z = .held (.agg (CA (cv k)))
  nd : ks.Nodup
  ok : ∀ k ∈ ks, KyOk k
/-- A map of cells in memory. -/
def Cm (W : World) (m : Nat) (ks : List Kyy) (cv : Kyy → Nat → Int) : Prop := ∃ D : DataW Value, W.ownsMap Try.prog 40 hldV m (Maps.size D) D ∧ Dm D ks cv
theorem tight16 {w : World} {b n : Nat} {D : DataW Value} (h : w.ownsMap Try.prog 40 hldV b n D) : w.ownsMap Try.prog 40 hldV b (Maps.size D) D := by
  obtain ⟨es, clock, hb, F, hs, hD⟩ := h
  refine ⟨es, clock, hb, F, ?_, hD⟩
  rw [hD]
  simp [Maps.size, length_sorted]
theorem Cm.lt {W : World} {m : Nat} {ks : List Kyy} {cv : Kyy → Nat → Int} (h : Cm W m ks cv) : m < W.heap.size := by obtain ⟨D, h1, -⟩ := h; exact h1.lt
theorem Cm.noKind {W : World} {m : Nat} {ks : List Kyy} {cv : Kyy → Nat → Int} (h : Cm W m ks cv) (t : TypeId) : ¬ kindR W m t := by
  obtain ⟨D, ⟨es, clock, hb, _⟩, -⟩ := h
  rintro ⟨cur, fr, e⟩
  rw [hb] at e
  cases e
theorem Cm.at {W W' : World} {m : Nat} {ks : List Kyy} {cv : Kyy → Nat → Int} (h : Cm W m ks cv) (he : W'.heap[m]? = W.heap[m]?) : Cm W' m ks cv := by
  obtain ⟨D, ⟨es, clock, hb, F, hs, hD⟩, h2⟩ := h
  exact ⟨D, ⟨es, clock, he.trans hb, F, hs, hD⟩, h2⟩
theorem Cm.frm {X : Nat → Prop} {W W' : World} {m : Nat} {ks : List Kyy} {cv : Kyy → Nat → Int} (h : Cm W m ks cv) (hf : Frm X W W') (hm : ¬ X m) : Cm W' m ks cv := h.at (hf.other m h.lt hm)
theorem Cm.keep {W W' : World} {m : Nat} {ks : List Kyy} {cv : Kyy → Nat → Int} (h : Cm W m ks cv) (hb : Below W.heap.size W W') : Cm W' m ks cv := h.at (hb.block m h.lt)
theorem cm_new (w : World) (cv : Kyy → Nat → Int) : Cm (w.alloc (.map #[] 0)) w.heap.size [] cv :=
  ⟨.map [], World.ownsMap_made w _ _ _, ⟨rfl, fun k _ => rfl, fun k h => (by cases h), List.nodup_nil, fun k h => (by cases h)⟩⟩
theorem Cm.look {w : World} {m : Nat} {ks : List Kyy} {cv : Kyy → Nat → Int} {k : Kyy} (h : Cm w m ks cv) (hk : KyOk k) (hz : k ∉ ks → cv k = zc) (b : Bool) :
    (Instr.lookup 81 (.map (some m)) (kyV k) b).run Try.prog w = .ok (if b then .tuple #[.agg (CA (cv k)), .bool (decide (k ∈ ks))] else .agg (CA (cv k))) w := by
  obtain ⟨D, ⟨es, clock, hb, F, _, hD⟩, h2⟩ := h
  have hh := h2.hs k hk
  rcases Maps.fit_look b keyed16 Try.underlying81 (zero_cell w) hb F (key16 hk) with ⟨hrun, hno, hat⟩ | ⟨e0, y, he0, hek, hrun, hRv, hat, _⟩
  · have hn : k ∉ ks := by
      intro hm
      have e1 := h2.cl k hm (.held (.int .i64 0))
      have e2 := h2.cl k hm (.held (.int .i64 1))
      rw [hD] at e1 e2
      rw [hat] at e1 e2
      rw [← e1] at e2
      cases e2
    rw [hrun, hz hn]
    simp [hn]
  · have hy : k ∈ ks := by
      have : Maps.has D (kyL k) = true := has_true_of_atKey (fun z => by rw [hD]; exact hat z)
      rw [hh] at this
      exact of_decide_eq_true this
    have e1 := h2.cl k hy (.held (.int .i64 0))
    rw [hD, hat] at e1
    have : e0.val = .agg (CA (cv k)) := by
      unfold hldV at hRv
      injection hRv with hRv
      rw [← hRv] at e1
      injection e1
    rw [hrun, this]
    simp [hy]
theorem Dm.put {D : DataW Value} {ks : List Kyy} {cv : Kyy → Nat → Int} (h : Dm D ks cv) (ht : Tidy D) {k : Kyy} (hk : KyOk k) (c : Nat → Int) : Dm (D.put (kyL k) (.held (.agg (CA c)))) (addK ks k) (fun j => if j = k then c else cv j) := by
  refine ⟨?_, fun j hj => ?_, fun j hj z => ?_, nd_addK h.nd k, fun j hj => ?_⟩
  · rw [size_put ht, h.hs k hk, addK_len, h.sz]
    by_cases e : k ∈ ks <;> simp [e]
  · by_cases e : j = k
    · subst e
      rw [has_put_same ht.isMap (kyL_key _)]
      exact (decide_eq_true (mem_addK.2 (.inr rfl))).symm
    · rw [has_put_other (kyL_ne hj hk e), h.hs j hj, decide_eq_decide, mem_addK]
      constructor
      · exact .inl
      · rintro (h' | h')
        · exact h'
        · exact absurd h' e
  · by_cases e : j = k
    · subst e
      rw [atKey_put_same ht.isMap (kyL_key _)]
      simp
    · have hj' : j ∈ ks := by rcases mem_addK.1 hj with h' | h'; exact h'; exact absurd h' e
      rw [atKey_put_other (kyL_ne (h.ok j hj') hk e), h.cl j hj']
      simp [e]
  · rcases mem_addK.1 hj with h' | rfl
    · exact h.ok j h'
    · exact hk
theorem Cm.put {w : World} {m : Nat} {ks : List Kyy} {cv : Kyy → Nat → Int} {k : Kyy} (h : Cm w m ks cv) (hk : KyOk k) (hl : ks.length ≤ 100000) (c : Nat → Int) :
    ∃ w', (Instr.mapUpdate 81 (.map (some m)) (kyV k) (.agg (CA c))).run Try.prog w = .ok () w' ∧ Cm w' m (addK ks k) (fun j => if j = k then c else cv j) ∧ w.grownBy w' (some m) := by
  obtain ⟨D, h1, h2⟩ := h
  obtain ⟨w', hup, h6, h7⟩ := h1.update (e := 61) (d := .held (.agg (CA c))) (ps := []) keyed16 Try.underlying81 (by rw [h2.sz]; unfold maxLen; omega) (key16 hk) (val := .agg (CA c)) rfl
  exact ⟨w', hup, ⟨_, tight16 h6, h2.put (h1.tidy keyed16) hk c⟩, h7⟩
theorem Cm.len {w : World} {m : Nat} {ks : List Kyy} {cv : Kyy → Nat → Int} (h : Cm w m ks cv) (ty : TypeId) : (Builtin.len_ #[81] ty #[.map (some m)]).run Try.prog w = .ok (.int .i64 ((ks.length : Nat) : Int)) w := by
  obtain ⟨D, h1, h2⟩ := h
  rw [h1.len Try.underlying81 ty, h2.sz]
theorem Dm.del {D : DataW Value} {ks : List Kyy} {cv : Kyy → Nat → Int} (h : Dm D ks cv) (ht : Tidy D) {k : Kyy} (hk : k ∈ ks) : Dm (D.del (kyL k)) (ks.filter fun j => decide (j ≠ k)) cv := by
  have hko := h.ok k hk
  refine ⟨?_, fun j hj => ?_, fun j hj z => ?_, h.nd.filter _, fun j hj => h.ok j (List.mem_filter.1 hj).1⟩
  · have h1 := size_del (k := kyL k) ht
    rw [h.hs k hko, decide_eq_true hk, h.sz] at h1
    have h2 : (ks.filter fun j => decide (j ≠ k)).length + 1 = ks.length := by
      have := List.length_eq_countP_add_countP (fun j => decide (j ≠ k)) (l := ks)
      rw [List.countP_eq_length_filter] at this
      have h3 : ks.countP (fun a => !decide (a ≠ k)) = 1 := by
        have e : (fun a => !decide (a ≠ k)) = fun a : Kyy => a == k := by
          funext a
          by_cases e : a = k <;> simp [e]
        rw [e]
        exact h.nd.count.trans (if_pos hk)
      have h4 : ks.countP (fun a => decide ¬ (decide (a ≠ k) = true)) = ks.countP (fun a => !decide (a ≠ k)) := by
        congr 1
        funext a
        by_cases e : a = k <;> simp [e]
      omega
    simp at h1
    omega
  · by_cases e : j = k
    · subst e
      rw [has_del_same]
      symm
      apply decide_eq_false
      intro hm
      simp [List.mem_filter] at hm
    · rw [has_del_other (kyL_ne hj hko e), h.hs j hj, decide_eq_decide]
      simp [List.mem_filter, e]
  · obtain ⟨h1, h2⟩ := List.mem_filter.1 hj
    have e : j ≠ k := of_decide_eq_true h2
    rw [atKey_del_other (kyL_ne (h.ok j h1) hko e)]
    exact h.cl j h1 z
end Go.Proofs.Ytogbhiklhcibdaa
namespace Go.Proofs.Ytogbhiklhcibdaa
open Go.RowKit Go.Maps
set_option linter.unusedVariables false
set_option maxRecDepth 100000

def flA (f : Flw) : Array Value := #[.int .i64 f.nx, .int .i64 f.mt, .bool f.md]
def E3f : En Flw := ⟨3, fun f => (flA f).toList, fun _ => rfl, fun x u hu => by simp [flA] at hu; rcases hu with rfl | rfl | rfl <;> rfl, by omega⟩
/-- Where a basin lies: its block, its map, its streams, its bases, its resolutions. -/
structure Bkk where
  b : Nat
  m : Nat
  gf : Nat
  cf : Nat
  gb : Nat
  cb : Nat
  vr : Value
def bsC (K : Bkk) (sh mo : Int) (nf nb : Nat) : Array Value := #[K.vr, .int .i64 sh, .int .i64 mo, .slice (some ⟨K.gf, 0, none⟩) nf K.cf, .slice (some ⟨K.gb, 0, none⟩) nb K.cb, .map (some K.m)]
/-- A basin in memory. -/
structure Bq (W : World) (B : Nat) (K : Bkk) (S : Bsn) : Prop where
  blk : Blk W K.b (bsC K S.sh S.mo S.fl.length S.ba.length) 83
  ge : B ≤ K.b
  re : Io W B K.vr S.res
  fe : Rw E3f 101 W K.gf K.cf S.fl
  gef : B ≤ K.gf
  be : Rw E2 24 W K.gb K.cb S.ba
  geb : B ≤ K.gb
  ce : Cm W K.m S.ks S.cv
  gem : B ≤ K.m
  ok : Okb S
/-- Its blocks that turn. -/
def bkB (K : Bkk) (k : Nat) : Prop := k = K.gf ∨ k = K.gb ∨ k = K.m
theorem rw_kind {α : Type} {E : En α} {e : TypeId} {W : World} {g cap : Nat} {L : List α} (h : Rw E e W g cap L) : kindR W g e := by
  obtain ⟨_, _, cur, hB, _⟩ := h
  exact hB.kindR
theorem rw_at {α : Type} {E : En α} {e : TypeId} {W W' : World} {g cap : Nat} {L : List α} (h : Rw E e W g cap L) (he : W'.heap[g]? = W.heap[g]?) : Rw E e W' g cap L := by
  obtain ⟨h1, h2, cur, hB, h3, h4⟩ := h
  exact ⟨h1, h2, cur, by unfold Blk; rw [he]; exact hB, h3, h4⟩
theorem Bq.noI {W : World} {B : Nat} {K : Bkk} {S : Bsn} (h : Bq W B K S) : NoI (bkB K) W := by
  rintro k (e | e | e) hi
  · subst e; exact absurd ((rw_kind h.fe).uniq hi) (by decide)
  · subst e; exact absurd ((rw_kind h.be).uniq hi) (by decide)
  · subst e; exact h.ce.noKind _ hi
theorem Bq.noB {W : World} {B : Nat} {K : Bkk} {S : Bsn} (h : Bq W B K S) : ¬ bkB K K.b := by
  rintro (e | e | e)
  · exact absurd ((rw_kind h.fe).uniq (e ▸ h.blk.kindR)) (by decide)
  · exact absurd ((rw_kind h.be).uniq (e ▸ h.blk.kindR)) (by decide)
  · exact h.ce.noKind 83 (e ▸ h.blk.kindR)
theorem Bq.nfb {W : World} {B : Nat} {K : Bkk} {S : Bsn} (h : Bq W B K S) : K.gf ≠ K.gb := fun e => absurd ((rw_kind h.fe).uniq (e ▸ rw_kind h.be)) (by decide)
theorem Bq.nfm {W : World} {B : Nat} {K : Bkk} {S : Bsn} (h : Bq W B K S) : K.gf ≠ K.m := fun e => h.ce.noKind _ (e ▸ rw_kind h.fe)
theorem Bq.nbm {W : World} {B : Nat} {K : Bkk} {S : Bsn} (h : Bq W B K S) : K.gb ≠ K.m := fun e => h.ce.noKind _ (e ▸ rw_kind h.be)
theorem Bq.bks {W : World} {B : Nat} {K : Bkk} {S : Bsn} (h : Bq W B K S) {k : Nat} (hk : bkB K k) : B ≤ k ∧ k < W.heap.size := by
  rcases hk with rfl | rfl | rfl
  · exact ⟨h.gef, h.fe.lt⟩
  · exact ⟨h.geb, h.be.lt⟩
  · exact ⟨h.gem, h.ce.lt⟩
theorem Bq.frm {W W' : World} {B : Nat} {K : Bkk} {S : Bsn} {X : Nat → Prop} (h : Bq W B K S) (hf : Frm X W W') (hi : NoI X W) (hb : ¬ X K.b) (hx : ∀ k, bkB K k → ¬ X k) : Bq W' B K S :=
  ⟨h.blk.frm hf hb, h.ge, h.re.frm hf hi, rw_at h.fe (hf.other _ h.fe.lt (hx _ (.inl rfl))), h.gef, rw_at h.be (hf.other _ h.be.lt (hx _ (.inr (.inl rfl)))), h.geb, h.ce.frm hf (hx _ (.inr (.inr rfl))), h.gem, h.ok⟩
theorem Bq.keep {W W' : World} {B : Nat} {K : Bkk} {S : Bsn} (h : Bq W B K S) (hb : Below W.heap.size W W') : Bq W' B K S :=
  h.frm (X := fun _ => False) (frm_below hb) (fun _ h => h.elim) (fun h => h) (fun _ _ h => h)
theorem Bq.less {W : World} {B B' : Nat} {K : Bkk} {S : Bsn} (h : Bq W B K S) (hb : B' ≤ B) : Bq W B' K S :=
  ⟨h.blk, Nat.le_trans hb h.ge, h.re.less hb, h.fe, Nat.le_trans hb h.gef, h.be, Nat.le_trans hb h.geb, h.ce, Nat.le_trans hb h.gem, h.ok⟩
/-- What a basin's own blocks hold has turned. -/
theorem Bq.upd {W W' : World} {B : Nat} {K : Bkk} {S T : Bsn} (h : Bq W B K S) (hf : Frm (bkB K) W W') (h1 : T.res = S.res) (h2 : T.sh = S.sh) (h3 : T.mo = S.mo) (h4 : T.fl.length = S.fl.length) (h5 : T.ba.length = S.ba.length)
    (hfe : Rw E3f 101 W' K.gf K.cf T.fl) (hbe : Rw E2 24 W' K.gb K.cb T.ba) (hce : Cm W' K.m T.ks T.cv) (ok : Okb T) : Bq W' B K T :=
  ⟨by rw [h2, h3, h4, h5]; exact h.blk.frm hf h.noB, h.ge, by rw [h1]; exact h.re.frm hf h.noI, hfe, h.gef, hbe, h.geb, hce, h.gem, ok⟩
theorem Bq.below {W W' : World} {B : Nat} {K : Bkk} {S : Bsn} (h : Bq W B K S) (hf : Frm (bkB K) W W') (hB : B ≤ W.heap.size) : Below B W W' := hf.below hB (fun k hk => (h.bks hk).1)
/-- The cells of a basin, in every world in which nothing of it has turned. -/
theorem Bq.cells {W : World} {B : Nat} {K : Bkk} {S : Bsn} (h : Bq W B K S) : ∀ V, Below W.heap.size W V → V.cell? ⟨K.b, 0, none⟩ = some K.vr ∧ V.cell? ⟨K.b, 1, none⟩ = some (.int .i64 S.sh) ∧ V.cell? ⟨K.b, 2, none⟩ = some (.int .i64 S.mo) ∧ V.cell? ⟨K.b, 3, none⟩ = some (.slice (some ⟨K.gf, 0, none⟩) S.fl.length K.cf) ∧ V.cell? ⟨K.b, 4, none⟩ = some (.slice (some ⟨K.gb, 0, none⟩) S.ba.length K.cb) ∧ V.cell? ⟨K.b, 5, none⟩ = some (.map (some K.m)) := fun V hb =>
  ⟨(h.blk.keep hb).at rfl, (h.blk.keep hb).at rfl, (h.blk.keep hb).at rfl, (h.blk.keep hb).at rfl, (h.blk.keep hb).at rfl, (h.blk.keep hb).at rfl⟩
abbrev bptr (K : Bkk) : Value := .pointer (some ⟨K.b, 0, none⟩)

theorem bwithin_any (n m : Int) (w : World) : Calls Try.prog 34 #[.int .i64 n, .int .i64 m] w fun e w' => e = .returned (.bool (wiB n m)) ∧ w' = w := by
  by_cases c : 1 ≤ n
  · have HV : Hid (decide (n ≤ m) = wiB n m) := by show _ = _; unfold wiB; rw [decide_eq_decide]; omega
    go_enter Try.func34, Try.ntmps34
    go_wp2_with fail
    go_ret
    exact ⟨ret_bool HV.out, rfl⟩
  · have HV : Hid (false = wiB n m) := by show _ = _; symm; exact decide_eq_false (by omega)
    go_enter Try.func34, Try.ntmps34
    go_wp2_with fail
    go_ret
    exact ⟨ret_bool HV.out, rfl⟩
theorem goodR_iff {res : List Int} {sh : Int} : goodR res sh = true ↔ (∀ r ∈ res, 1 ≤ r) ∧ (1 ≤ res.length ∧ res.length ≤ 3) ∧ (1 ≤ sh ∧ sh ≤ 4) := by
  unfold goodR
  simp only [Bool.and_eq_true, decide_eq_true_eq, List.all_eq_true]
  constructor
  · rintro ⟨⟨a, b⟩, c⟩; exact ⟨a, b, c⟩
  · rintro ⟨a, b, c⟩; exact ⟨⟨a, b⟩, c⟩
theorem bgood_any (v : Value) (l : List Int) (sh : Int) (w : World) (hv : Is w v l) : Calls Try.prog 35 #[v, .int .i64 sh] w fun e w' => e = .returned (.bool (goodR l sh)) ∧ w' = w := by
  obtain ⟨q, cap, g, off, rfl, hc, hm, hp, hg, hr⟩ := hv
  generalize hn : l.length = n at *
  have hgd : ∀ k, wiB (n : Int) 3 = decide (1 ≤ l.length ∧ l.length ≤ 3) ∧ (k = 0 → k = 0) := fun k => ⟨by unfold wiB; rw [decide_eq_decide, hn]; omega, fun h => h⟩
  go_enter Try.func35, Try.ntmps35
  go_wp2_with fail
  go_loopw [9] (fun i wr => ∃ k : Nat, k ≤ n ∧ i = .int .i64 (k : Int) ∧ (∀ x ∈ l.take k, 1 ≤ x) ∧ wr = w) (fun i _ => n - (intOf i).toNat)
  case atStart => exact ⟨0, by omega, rfl, fun x hx => by simp at hx, rfl⟩
  case round =>
    obtain ⟨k, hk, rfl, hall, rfl⟩ := hrel
    by_cases c : k = n
    · subst c
      rw [List.take_of_length_le (by omega)] at hall
      have HV : Hid (goodR l sh = (wiB (k : Int) 3 && wiB sh 4)) := by
        show _ = _
        unfold goodR
        rw [(hgd 0).1, show l.all (fun r => decide (1 ≤ r)) = true by simp only [List.all_eq_true, decide_eq_true_eq]; exact hall, Bool.true_and]
        rfl
      clear hall hr hp hg hgd
      cases a1 : wiB (k : Int) 3
      · have HV' : Hid (goodR l sh = false) := by show _ = _; rw [HV.out, a1]; rfl
        go_wp2_with (go_at_call 34; refine (bwithin_any _ _ _).mono ?_; rintro e W ⟨rfl, rfl⟩; rw [a1])
        go_ret
        exact ⟨by rw [HV'.out]; rfl, rfl⟩
      · have HV' : Hid (goodR l sh = wiB sh 4) := by show _ = _; rw [HV.out, a1]; rfl
        go_wp2_with (go_at_call 34; refine (bwithin_any _ _ _).mono ?_; rintro e W ⟨rfl, rfl⟩; first | rw [a1] | skip)
        go_ret
        exact ⟨by rw [HV'.out]; rfl, rfl⟩
    · obtain ⟨x, hx⟩ : ∃ x, l[k]? = some x := ⟨l[k], List.getElem?_eq_getElem (by omega)⟩
      obtain rfl := hp (by omega)
      have y0 := hr k x hx
      have hki : (k : Int) < (n : Int) := by omega
      by_cases c1 : x < 1
      · have HV : Hid (goodR l sh = false) := by
          show _ = _
          cases hh : goodR l sh
          · rfl
          · have := (goodR_iff.1 hh).1 x (List.mem_of_getElem? hx); omega
        clear hall hr hp hg hgd hx
        go_wp2_with fail
        go_ret
        exact ⟨by rw [HV.out]; rfl, rfl⟩
      · have HA : Hid (∀ x ∈ l.take (k + 1), 1 ≤ x) := by
          intro z hz
          rw [List.take_add_one, hx] at hz
          rcases List.mem_append.1 hz with hz | hz
          · exact hall z hz
          · simp at hz; subst hz; omega
        clear hall hr hp hg hgd hx
        go_wp2_with fail
        go_roundw
        case rel => exact ⟨k + 1, by omega, by go_num, HA.out, trivial⟩
        case measure => simp [intOf]; omega
theorem blanes_any {B : Nat} {K : Bkk} {S : Bsn} (w : World) (h : Bq w B K S) : Calls Try.prog 40 #[bptr K] w fun e w' => e = .returned (.int .i64 (S.ba.length : Int)) ∧ w' = w := by
  obtain ⟨-, -, -, -, c4, -⟩ := h.cells w (Below.refl _ _)
  clear h
  generalize S.ba.length = n at *
  obtain ⟨b, m, gf, cf, gb, cb, vr⟩ := K
  try dsimp only at *
  go_enter Try.func40, Try.ntmps40
  go_wp2_with fail
  go_ret
  exact ⟨rfl, rfl⟩
theorem blanes_nil (w : World) : Calls Try.prog 40 #[.pointer none] w fun e w' => e = .returned (.int .i64 0) ∧ w' = w := by
  go_enter Try.func40, Try.ntmps40
  go_wp2_with fail
  go_ret
  exact ⟨rfl, rfl⟩
/-- len of a map, where its run is known. -/
theorem len_l {P : Program} {ops : Array Oper} {rest : List Oper} {o : Oper} {a : Act} {w : World} {Q : Exit → Act → World → Prop} (hw : Region.wanted o (yielded ops a.tmps) = true) {x : Operand} {t : TypeId} (ho : o.op = .call { callee := .builtin .len, args := #[x], argTypes := #[t] }) (v : Value) (hx : a.eval x = v) {v' : Value} {w' : World}
    (hr : ∀ ty, (Builtin.len_ #[t] ty #[v]).run P w = .ok v' w') (h : wpList P ops Q rest (a.put o.dst v') w') : wpList P ops Q (o :: rest) a w := by
  unfold wpList
  rw [if_pos hw]
  left
  unfold Oper.wp execOp
  simp only [ho, resolve, invoke, builtin, Sem.run_bind, Sem.run_pure, Result.andThen_ok, List.map_toArray, List.map_cons, List.map_nil, hx, hr]
  exact h
def hasN (n : Int) (m : Nat) : Bool := decide (0 ≤ n ∧ n < (m : Int))
theorem bhasS_any {B : Nat} {K : Bkk} {S : Bsn} (n : Int) (w : World) (h : Bq w B K S) : Calls Try.prog 39 #[bptr K, .int .i64 n] w fun e w' => e = .returned (.bool (hasN n S.fl.length)) ∧ w' = w := by
  obtain ⟨-, -, -, c3, -, -⟩ := h.cells w (Below.refl _ _)
  clear h
  generalize S.fl.length = k at *
  obtain ⟨b, m, gf, cf, gb, cb, vr⟩ := K
  try dsimp only at *
  by_cases c : 0 ≤ n
  · have HV : Hid (decide (n < (k : Int)) = hasN n k) := by show _ = _; unfold hasN; rw [decide_eq_decide]; omega
    go_enter Try.func39, Try.ntmps39
    go_wp2_with fail
    go_ret
    exact ⟨ret_bool HV.out, rfl⟩
  · have HV : Hid (false = hasN n k) := by show _ = _; symm; exact decide_eq_false (by omega)
    go_enter Try.func39, Try.ntmps39
    go_wp2_with fail
    go_ret
    exact ⟨ret_bool HV.out, rfl⟩
theorem bhasS_nil (n : Int) (w : World) : Calls Try.prog 39 #[.pointer none, .int .i64 n] w fun e w' => e = .returned (.bool false) ∧ w' = w := by
  go_enter Try.func39, Try.ntmps39
  go_wp2_with fail
  go_ret
  exact ⟨rfl, rfl⟩
theorem bhasL_any {B : Nat} {K : Bkk} {S : Bsn} (n : Int) (w : World) (h : Bq w B K S) : Calls Try.prog 22 #[bptr K, .int .i64 n] w fun e w' => e = .returned (.bool (hasN n S.ba.length)) ∧ w' = w := by
  have HL := blanes_any w h
  clear h
  generalize S.ba.length = k at *
  obtain ⟨b, m, gf, cf, gb, cb, vr⟩ := K
  try dsimp only at *
  by_cases c : 0 ≤ n
  · have HV : Hid (decide (n < (k : Int)) = hasN n k) := by show _ = _; unfold hasN; rw [decide_eq_decide]; omega
    go_enter Try.func22, Try.ntmps22
    go_wp2_with (go_at_call 40; refine HL.mono ?_; rintro e W ⟨rfl, rfl⟩)
    go_ret
    exact ⟨ret_bool HV.out, rfl⟩
  · have HV : Hid (false = hasN n k) := by show _ = _; symm; exact decide_eq_false (by omega)
    go_enter Try.func22, Try.ntmps22
    go_wp2_with fail
    go_ret
    exact ⟨ret_bool HV.out, rfl⟩
theorem bhasL_nil (n : Int) (w : World) : Calls Try.prog 22 #[.pointer none, .int .i64 n] w fun e w' => e = .returned (.bool false) ∧ w' = w := by
  by_cases c : 0 ≤ n
  · have HV : Hid (decide (n < 0) = false) := by show _ = _; exact decide_eq_false (by omega)
    go_enter Try.func22, Try.ntmps22
    go_wp2_with (go_at_call 40; refine (blanes_nil _).mono ?_; rintro e W ⟨rfl, rfl⟩)
    go_ret
    exact ⟨by first | rfl | exact ret_bool HV.out, rfl⟩
  · go_enter Try.func22, Try.ntmps22
    go_wp2_with fail
    go_ret
    exact ⟨rfl, rfl⟩
end Go.Proofs.Ytogbhiklhcibdaa
namespace Go.Proofs.Ytogbhiklhcibdaa
open Go.RowKit Go.Maps
set_option linter.unusedVariables false
set_option maxRecDepth 100000

theorem hasN_no {n : Int} {m : Nat} (h : hasN n m = true) : ∃ i : Nat, n = (i : Int) ∧ i < m := by
  have := of_decide_eq_true h
  exact ⟨n.toNat, by omega, by omega⟩
/-- What Next answers. -/
def nxN (S : Bsn) (n : Int) : Int := if hasN n S.fl.length = true then nxOf S n.toNat else 0
theorem nxN_J {S : Bsn} (h : Okb S) (n : Int) : J64 (nxN S n) := by
  unfold nxN nxOf
  split
  · split
    · rename_i f hf
      exact (h.ff f (List.mem_of_getElem? hf)).1
    · unfold J64; omega
  · unfold J64; omega
theorem bbase_at {B : Nat} {K : Bkk} {S : Bsn} (i : Nat) (p : Int × Int) (w : World) (h : Bq w B K S) (hi : S.ba[i]? = some p) : Calls Try.prog 8 #[bptr K, .int .i64 (i : Int)] w fun e w' => e = .returned (Plc p.1 p.2) ∧ Below w.heap.size w w' := by
  obtain ⟨A, hE, hX, hw⟩ := blk1 w #[.int .i64 0, .int .i64 0] 24
  have hA := h.keep hw
  obtain ⟨-, -, -, -, c4, -⟩ := hA.cells A (Below.refl _ _)
  have hl := (List.getElem?_eq_some_iff.1 hi).1
  have HS := bhasL_any (i : Int) A hA
  have hh : hasN (i : Int) S.ba.length = true := decide_eq_true (by omega)
  have z0 : A.cell? ⟨K.gb, i * 2, none⟩ = some (.int .i64 p.1) := hA.be.cell (i := 0) hi rfl
  have z1 : A.cell? ⟨K.gb, i * 2 + 1, none⟩ = some (.int .i64 p.2) := hA.be.cell (i := 1) hi rfl
  have hli : (i : Int) < (S.ba.length : Int) := by omega
  rw [hh] at HS
  clear h hi hh hA
  generalize S.ba.length = n at *
  obtain ⟨b, m, gf, cf, gb, cb, vr⟩ := K
  obtain ⟨p0, p1⟩ := p
  try dsimp only at *
  go_enter Try.func8, Try.ntmps8
  go_upto_region 1 with fail
  go_upto_region 3 with (go_at_call 22; refine HS.mono ?_; rintro e W ⟨rfl, rfl⟩)
  clear hE
  go_wp2_with (refine st_blk rfl rfl hX rfl rfl info_plc rfl (by simp [Value.oneCell']) ?_; intro W2 hX2 C2)
  exact bodyPost_ret (results_cell_row rfl _ _ _ 24 _ (0, 0) _ rfl hX2 Try.underlying24 rfl info_plc) rfl ⟨rfl, ab_chg hw C2 (Nat.le_refl _)⟩
end Go.Proofs.Ytogbhiklhcibdaa
namespace Go.Proofs.Ytogbhiklhcibdaa
open Go.RowKit Go.Maps
set_option linter.unusedVariables false
set_option maxRecDepth 100000

/-- What past reads of a basin. -/
structure Pw (W : World) (K : Bkk) (S : Bsn) : Prop where
  blk : Blk W K.b (bsC K S.sh S.mo S.fl.length S.ba.length) 83
  be : Rw E2 24 W K.gb K.cb S.ba
theorem Bq.pw {W : World} {B : Nat} {K : Bkk} {S : Bsn} (h : Bq W B K S) : Pw W K S := ⟨h.blk, h.be⟩
theorem Pw.keep {W W' : World} {K : Bkk} {S : Bsn} (h : Pw W K S) (hb : Below W.heap.size W W') : Pw W' K S := ⟨h.blk.keep hb, h.be.keep hb⟩
theorem Pw.frm {W W' : World} {K : Bkk} {S : Bsn} {X : Nat → Prop} (h : Pw W K S) (hf : Frm X W W') (h1 : ¬ X K.b) (h2 : ¬ X K.gb) : Pw W' K S := ⟨h.blk.frm hf h1, rw_at h.be (hf.other _ h.be.lt h2)⟩
theorem pasB_at {ba : List (Int × Int)} {k : Kyy} {i : Nat} {c : Int × Int} (hi : k.1 = (i : Int)) (hc : ba[i]? = some c) : pasB ba k = pl k.2.1 k.2.2 c.1 c.2 := by
  unfold pasB
  rw [hi, Int.toNat_natCast, hc]
set_option maxHeartbeats 1000000 in
theorem bapast_any {K : Bkk} {S : Bsn} (k : Kyy) (w : World) (h : Pw w K S) (h0 : 0 ≤ k.1) (h1 : k.1 < (S.ba.length : Int)) :
    Calls Try.prog 51 #[bptr K, kyV k] w fun e w' => e = .returned (.bool (pasB S.ba k)) ∧ Below w.heap.size w w' := by
  obtain ⟨i, hi⟩ : ∃ i : Nat, k.1 = (i : Int) := ⟨k.1.toNat, by omega⟩
  obtain ⟨c, hc⟩ : ∃ c, S.ba[i]? = some c := ⟨S.ba[i]'(by omega), List.getElem?_eq_getElem (by omega)⟩
  rw [pasB_at hi hc]
  obtain ⟨k0, k1, k2⟩ := k
  dsimp only at hi h0 h1
  subst hi
  unfold kyV
  obtain ⟨A, hE, hX, hw⟩ := blk1 w #[.int .i64 (i : Int), .int .i64 k1, .int .i64 k2] 40
  have hA := h.keep hw
  have y0 : ∀ y : Cls A, y.val.cell? ⟨w.heap.size, 0, none⟩ = some (.int .i64 (i : Int)) := fun y => (hX.keep y.prop).at rfl
  have y1 : ∀ y : Cls A, y.val.cell? ⟨w.heap.size, 1, none⟩ = some (.int .i64 k1) := fun y => (hX.keep y.prop).at rfl
  have y2 : ∀ y : Cls A, y.val.cell? ⟨w.heap.size, 2, none⟩ = some (.int .i64 k2) := fun y => (hX.keep y.prop).at rfl
  have x4 : ∀ y : Cls A, y.val.cell? ⟨K.b, 4, none⟩ = some (.slice (some ⟨K.gb, 0, none⟩) S.ba.length K.cb) := fun y => (hA.blk.keep y.prop).at rfl
  have z0 : ∀ y : Cls A, y.val.cell? ⟨K.gb, i * 2, none⟩ = some (.int .i64 c.1) := fun y => (hA.be.keep y.prop).cell (i := 0) hc rfl
  have z1 : ∀ y : Cls A, y.val.cell? ⟨K.gb, i * 2 + 1, none⟩ = some (.int .i64 c.2) := fun y => (hA.be.keep y.prop).cell (i := 1) hc rfl
  clear h hA hX hc
  generalize S.ba.length = n at *
  obtain ⟨b, m, gf, cf, gb, cb, vr⟩ := K
  obtain ⟨c0, c1⟩ := c
  try dsimp only at *
  go_enter Try.func51, Try.ntmps51
  go_upto_region 1 with fail
  have HZ := cls_some A
  refine wp_region_below (by kernel_rfl) (by kernel_rfl) ?_
  repeat (go_big_quiet_step (first | (go_at_call 24; exact calls_below (pless_any _ _ _ _ _))))
  refine wpQuiet_nil ?_
  rintro _ ⟨y, rfl⟩
  go_wp2_with fail
  go_ret
  exact ⟨rfl, ab_trans hw y.prop⟩
/-- One of them into a row, at one operation. -/
theorem stEW {P : Program} {α : Type} {E : En α} {e ty : TypeId} {o : Oper} {a : Act} {w : World} {K : Act → World → Prop} {Q : Exit → Act → World → Prop} (d : Option Tmp) (hd : o.dst = d) {x y : Operand} (ho : o.op = .store ty x y) {g cap i off : Nat} {L : List α} (h : Rw E e w g cap L) (hi : i < L.length) (c : α) (arr : Array Value) (harr : arr.toList = E.f c)
    (hoff : off = i * E.k) (hx : a.eval x = .pointer (some ⟨g, off, none⟩)) (hy : a.eval y = .agg arr) (hinf : (P.info? ty).map (·.size) = some arr.size)
    (hK : ∀ W', Rw E e W' g cap (L.set i c) → Chg g w W' → K (a.put d undef) W') : o.wp P a w K Q := by
  subst hd
  obtain ⟨h1, h2, h3⟩ := h.stored hi c
  have hs : arr.size = E.k := by rw [← Array.length_toList, harr, E.len]
  subst hoff
  refine wp_store_mid ty x y ho g (i * E.k) arr hx hy (by rw [hs]; exact h3) hinf ?_ ?_
  · rw [← Array.all_toList, harr]
    exact List.all_eq_true.2 (E.one c)
  · rw [harr]
    exact hK _ h1 h2
theorem mxP_yes {c p : Int × Int} (h : pl c.1 c.2 p.1 p.2 = true) : mxP c p = p := by unfold mxP; rw [if_pos h]
theorem mxP_no {c p : Int × Int} (h : pl c.1 c.2 p.1 p.2 = false) : mxP c p = c := by unfold mxP; rw [if_neg (by rw [h]; simp)]
theorem lifB_at {S : Bsn} {i : Nat} {c p : Int × Int} (hc : S.ba[i]? = some c) : lifB S i p = { S with ba := S.ba.set i (mxP c p) } := by unfold lifB; rw [hc]
theorem set_same {α : Type} {l : List α} {i : Nat} {c : α} (hc : l[i]? = some c) : l.set i c = l := by
  obtain ⟨h1, h2⟩ := List.getElem?_eq_some_iff.1 hc
  rw [← h2]
  exact List.set_getElem_self h1
set_option maxHeartbeats 1000000 in
theorem balift_any {B : Nat} {K : Bkk} {S : Bsn} (i : Nat) (p : Int × Int) (w : World) (h : Bq w B K S) (hi : i < S.ba.length) (hp : J64 p.1 ∧ J64 p.2) :
    Calls Try.prog 32 #[bptr K, .int .i64 (i : Int), Plc p.1 p.2] w fun e w' => e = .returned (.tuple #[]) ∧ Bq w' B K (lifB S i p) ∧ Frm (bkB K) w w' := by
  obtain ⟨c, hc⟩ : ∃ c, S.ba[i]? = some c := ⟨S.ba[i], List.getElem?_eq_getElem hi⟩
  obtain ⟨A, hE, hX, hw⟩ := blk1 w #[.int .i64 p.1, .int .i64 p.2] 24
  have hA := h.keep hw
  have hOK := okb_lif h.ok (i := i) hp
  have y0 : ∀ y : Cls A, y.val.cell? ⟨w.heap.size, 0, none⟩ = some (.int .i64 p.1) := fun y => (hX.keep y.prop).at rfl
  have y1 : ∀ y : Cls A, y.val.cell? ⟨w.heap.size, 1, none⟩ = some (.int .i64 p.2) := fun y => (hX.keep y.prop).at rfl
  have x4 : ∀ y : Cls A, y.val.cell? ⟨K.b, 4, none⟩ = some (.slice (some ⟨K.gb, 0, none⟩) S.ba.length K.cb) := fun y => (hA.blk.keep y.prop).at rfl
  have z0 : ∀ y : Cls A, y.val.cell? ⟨K.gb, i * 2, none⟩ = some (.int .i64 c.1) := fun y => (hA.be.keep y.prop).cell (i := 0) hc rfl
  have z1 : ∀ y : Cls A, y.val.cell? ⟨K.gb, i * 2 + 1, none⟩ = some (.int .i64 c.2) := fun y => (hA.be.keep y.prop).cell (i := 1) hc rfl
  have hli : (i : Int) < (S.ba.length : Int) := by omega
  have HL : Hid (∀ V, Below A.heap.size A V → Bq V B K S ∧ Blk V w.heap.size #[.int .i64 p.1, .int .i64 p.2] 24 ∧ Below w.heap.size w V) := fun V hb => ⟨hA.keep hb, hX.keep hb, ab_trans hw hb⟩
  have HC : Hid (lifB S i p = { S with ba := S.ba.set i (mxP c p) }) := lifB_at hc
  have HS : Hid (S.ba[i]? = some c) := hc
  have hib : Hid (i < S.ba.length) := hi
  have HG : Hid (K.gb < w.heap.size) := h.be.lt
  clear h hA hX hc hi
  generalize hn : S.ba.length = n at *
  have hNb : Hid (S.ba.length = n) := hn
  clear hn
  obtain ⟨b, m, gf, cf, gb, cb, vr⟩ := K
  obtain ⟨c0, c1⟩ := c
  obtain ⟨p0, p1⟩ := p
  try dsimp only at *
  go_enter Try.func32, Try.ntmps32
  go_upto_region 1 with fail
  have HZ := cls_some A
  refine wp_region_below (by kernel_rfl) (by kernel_rfl) ?_
  repeat (go_big_quiet_step (first | (go_at_call 24; exact calls_below (pless_any _ _ _ _ _))))
  refine wpQuiet_nil ?_
  rintro V ⟨⟨V', hV⟩, rfl⟩
  obtain ⟨hQ, hP, hwV⟩ := HL.out V hV
  clear y0 y1 x4 z0 z1 HZ HL hE
  cases hpl : pl c0 c1 p0 p1
  · have HM : Hid (lifB S i (p0, p1) = S) := by
      show _ = _
      rw [HC.out, mxP_no hpl, set_same HS.out]
    go_wp2_with fail
    exact bodyPost_end (results_none rfl _ _ _) rfl ⟨rfl, by rw [HM.out]; exact hQ, frm_below hwV⟩
  · have HM : Hid (lifB S i (p0, p1) = { S with ba := S.ba.set i (p0, p1) }) := by
      show _ = _
      rw [HC.out, mxP_yes hpl]
    have x4 : V.cell? ⟨b, 4, none⟩ = some (.slice (some ⟨gb, 0, none⟩) n cb) := by rw [← hNb.out]; exact hQ.blk.at rfl
    have y0 : V.cell? ⟨w.heap.size, 0, none⟩ = some (.int .i64 p0) := hP.at rfl
    have y1 : V.cell? ⟨w.heap.size, 1, none⟩ = some (.int .i64 p1) := hP.at rfl
    have HBN : Hid (Blk V b (bsC ⟨b, m, gf, cf, gb, cb, vr⟩ S.sh S.mo S.fl.length S.ba.length) 83) := hQ.blk
    go_upto_region 2 with fail
    refine wp_region_held_drew (S := fun w' => w'.cell? ⟨b, 4, none⟩ = some (.slice (some ⟨gb, 0, none⟩) n cb) ∧ w'.cell? ⟨w.heap.size, 0, none⟩ = some (.int .i64 p0) ∧ w'.cell? ⟨w.heap.size, 1, none⟩ = some (.int .i64 p1)) (by kernel_rfl) ⟨x4, y0, y1⟩ (fun hHeld => ?_)
    have bV : Below V.heap.size V V.drew := ab_drew (Below.refl _ _)
    have hQ2 := hQ.keep bV
    have hP2 := hP.keep bV
    have hw2 := ab_trans hwV bV
    clear hQ hP hwV x4 y0 y1 bV hV
    generalize V.drew = V2 at *
    refine takeH (i := 0) (some 15) rfl rfl (by kernel_rfl) (by kernel_rfl) (by kernel_rfl) (fun _ _ _ h => h) (by rfl) (fun w hSw => by (try dsimp only at hSw); go_simp; try rfl) hHeld ?_
    go_frame
    refine takeH (i := 1) (some 16) rfl rfl (by kernel_rfl) (by kernel_rfl) (by kernel_rfl) (fun _ _ _ h => h) (by rfl) (fun w hSw => by (try dsimp only at hSw); go_simp; try rfl) hHeld ?_
    go_frame
    refine takeH (i := 2) (some 17) rfl rfl (by kernel_rfl) (by kernel_rfl) (by kernel_rfl) (fun _ _ _ h => h) (by rfl) (fun w hSw => by (try dsimp only at hSw); go_simp; try rfl) hHeld ?_
    go_frame
    refine takeH (i := 3) (some 18) rfl rfl (by kernel_rfl) (by kernel_rfl) (by kernel_rfl) (fun _ _ _ h => h) (by rfl) (fun w hSw => by (try dsimp only at hSw); (obtain ⟨q4, q0, q1⟩ := hSw; go_simp; try rfl)) hHeld ?_
    go_frame
    refine takeH (i := 4) (some 19) rfl rfl (by kernel_rfl) (by kernel_rfl) (by kernel_rfl) (fun _ _ _ h => h) (by rfl) (fun w hSw => by (try dsimp only at hSw); go_simp; try rfl) hHeld ?_
    go_frame
    refine takeH (i := 5) (some 20) rfl rfl (by kernel_rfl) (by kernel_rfl) (by kernel_rfl) (fun _ _ _ h => h) (by rfl) (fun w hSw => by (try dsimp only at hSw); (obtain ⟨q4, q0, q1⟩ := hSw; go_simp; try rfl)) hHeld ?_
    go_frame
    refine takeH (i := 6) (some 21) rfl rfl (by kernel_rfl) (by kernel_rfl) (by kernel_rfl) (fun _ _ _ h => h) (by rfl) (fun w hSw => by (try dsimp only at hSw); (obtain ⟨q4, q0, q1⟩ := hSw; go_simp; try rfl)) hHeld ?_
    go_frame
    refine wpAnyH_ready (rs := [7]) (by kernel_rfl) (by simp) (AllReadyH.cons rfl (fun K hK => ?_) AllReadyH.nil)
    rw [if_pos (by rfl)]
    refine stEW (E := E2) none rfl rfl hQ2.be (by rw [hNb.out]; exact hib.out) (p0, p1) #[.int .i64 p0, .int .i64 p1] rfl rfl (by first | rfl | (simp; rfl) | (go_simp; rfl)) rfl info_plc fun W3 hR3 C3 => ?_
    have hF3 : Frm (bkB ⟨b, m, gf, cf, gb, cb, vr⟩) V2 W3 := frm_chg C3 (.inr (.inl rfl))
    have hnb : b ≠ gb := fun e => hQ2.noB (.inr (.inl e))
    have hgw : gb < w.heap.size := HG.out
    have q4 : W3.cell? ⟨b, 4, none⟩ = some (.slice (some ⟨gb, 0, none⟩) n cb) := by rw [← hNb.out]; exact (hQ2.blk.chg C3 hnb).at rfl
    have hP3 := hP2.chg C3 (show w.heap.size ≠ gb by omega)
    have q0 : W3.cell? ⟨w.heap.size, 0, none⟩ = some (.int .i64 p0) := hP3.at rfl
    have q1 : W3.cell? ⟨w.heap.size, 1, none⟩ = some (.int .i64 p1) := hP3.at rfl
    refine hK.out _ _ ⟨q4, q0, q1⟩ (fun hHeld => ?_)
    refine wpAnyH_done (by kernel_rfl) ?_ _
    clear hK K
    have hQ3 : Bq W3 B ⟨b, m, gf, cf, gb, cb, vr⟩ (lifB S i (p0, p1)) := hQ2.upd hF3 (by rw [HM.out]) (by rw [HM.out]) (by rw [HM.out]) (by rw [HM.out]) (by rw [HM.out, List.length_set]) (by rw [HM.out]; exact rw_at hQ2.fe (C3.other _ hQ2.nfb)) (by rw [HM.out]; exact hR3) (by rw [HM.out]; exact hQ2.ce.at (C3.other _ hQ2.nbm.symm)) hOK
    go_wp2_with fail
    exact bodyPost_end (results_none rfl _ _ _) rfl ⟨rfl, hQ3, (frm_below hw2).trans hF3⟩
end Go.Proofs.Ytogbhiklhcibdaa
namespace Go.Proofs.Ytogbhiklhcibdaa
open Go.RowKit Go.Maps
set_option linter.unusedVariables false
set_option maxRecDepth 100000

/-- Which names are left on the way. -/
def lefK (ba : List (Int × Int)) (ks : List Kyy) (left : Lit → Bool) : List Kyy := ks.filter fun k => !pasB ba k || left (kyL k)
theorem lefK_0 {ba : List (Int × Int)} {ks : List Kyy} {left : Lit → Bool} (h : ∀ k ∈ ks, left (kyL k) = true) : lefK ba ks left = ks := by
  unfold lefK
  rw [List.filter_eq_self]
  intro k hk
  rw [h k hk, Bool.or_true]
theorem lefK_end {ba : List (Int × Int)} {ks : List Kyy} {left : Lit → Bool} (h : ∀ l, left l = false) : lefK ba ks left = ks.filter fun k => !pasB ba k := by
  unfold lefK
  apply List.filter_congr
  intro k _
  rw [h, Bool.or_false]
theorem same_iff {a b : Kyy} (ha : KyOk a) (hb : KyOk b) : (kyL a).sameKey (kyL b) = decide (a = b) := by
  by_cases e : a = b
  · subst e
    rw [WideAt.sameKey_self (kyL_key a)]
    simp
  · cases h : (kyL a).sameKey (kyL b)
    · simp [e]
    · exact absurd (kyL_inj ha hb (WideAt.sameKey_eq h)) e
theorem lefK_stay {ba : List (Int × Int)} {ks : List Kyy} {left : Lit → Bool} {k : Kyy} (hok : ∀ k ∈ ks, KyOk k) (hk : KyOk k) (hp : pasB ba k = false) : lefK ba ks (fun z => left z && !z.sameKey (kyL k)) = lefK ba ks left := by
  unfold lefK
  apply List.filter_congr
  intro j hj
  dsimp only
  rw [same_iff (hok j hj) hk]
  by_cases e : j = k
  · subst e; rw [hp]; simp
  · simp [e]
theorem lefK_gone {ba : List (Int × Int)} {ks : List Kyy} {left : Lit → Bool} {k : Kyy} (hok : ∀ k ∈ ks, KyOk k) (hk : KyOk k) (hp : pasB ba k = true) : lefK ba ks (fun z => left z && !z.sameKey (kyL k)) = (lefK ba ks left).filter fun j => decide (j ≠ k) := by
  unfold lefK
  rw [List.filter_filter]
  apply List.filter_congr
  intro j hj
  dsimp only
  rw [same_iff (hok j hj) hk]
  by_cases e : j = k
  · subst e; rw [hp]; simp
  · simp [e]
/-- The way of drop. -/
structure Dw (w W : World) (K : Bkk) (S : Bsn) (r : Nat) (left : Lit → Bool) (cnt : Nat) (D : DataW Value) : Prop where
  rg : W.ranges Try.prog 40 hldV K.m r S.ks.length D left cnt
  dm : Dm D (lefK S.ba S.ks left) S.cv
  pw : Pw W K S
  fr : Frm (fun k => k = K.m) w W
  nr : w.heap.size ≤ r
theorem Dw.keep {w W W' : World} {K : Bkk} {S : Bsn} {r : Nat} {left : Lit → Bool} {cnt : Nat} {D : DataW Value} (h : Dw w W K S r left cnt D) (hb : Below W.heap.size W W') : Dw w W' K S r left cnt D := by
  refine ⟨?_, h.dm, h.pw.keep hb, h.fr.trans (frm_below hb), h.nr⟩
  obtain ⟨es, clock, since, seen, c0, h1, h2, h3, h4, h5, h6⟩ := h.rg
  have l1 : K.m < W.heap.size := (Array.getElem?_eq_some_iff.1 h1).1
  have l2 : r < W.heap.size := (Array.getElem?_eq_some_iff.1 h5).1
  exact ⟨es, clock, since, seen, c0, (hb.block _ l1).trans h1, h2, h3, h4, (hb.block _ l2).trans h5, h6⟩
theorem ky_inv2 : ∀ key kl, keyOf Try.prog 40 key = some kl → ∃ x : { k : Kyy // KyOk k }, key = kyV x.1 := fun key kl h => by
  obtain ⟨k, hk, rfl⟩ := ky_inv h
  exact ⟨⟨k, hk⟩, rfl⟩
theorem held_inv : ∀ (v : Value) (y : DataW Value × List MemPlace), hldV v = some y → ∃ c : Value, v = id c := fun v y h => ⟨v, rfl⟩
/-- 'delete' in a round, at one operation. -/
theorem delRW {P : Program} {H : Type} {o : Oper} {a : Act} {w : World} {KK : Act → World → Prop} {Q : Exit → Act → World → Prop} (d : Option Tmp) (hd : o.dst = d) (m x : Operand) (t k : TypeId) (hop : o.op = Op.call { callee := Callee.builtin Builtin.delete, args := #[m, x], argTypes := #[t, k] })
    (e : TypeId) (K : Keyed P k) (ht : P.underlying t = some (.map k e)) (R : Value → Option (DataW H × List MemPlace)) (b r n : Nat) (D : DataW H) (left : Lit → Bool) (cnt : Nat)
    (hm : a.eval m = .map (some b)) (h : w.ranges P k R b r n D left cnt) (key : Value) (kl : Lit) (hx : a.eval x = key) (hkey : keyOf P k key = some kl)
    (hK : ∀ w' cnt', w'.ranges P k R b r n (D.del kl) (fun z => left z && !z.sameKey kl) cnt' → cnt' ≤ cnt → w.mapTurned w' b → KK (a.put d (.tuple #[])) w') : o.wp P a w KK Q := by
  subst hd
  obtain ⟨w', cnt', hrun, r1, r2, r3⟩ := h.drop K ht hkey o.type
  unfold Oper.wp
  simp [execOp, hop, resolve, invoke, builtin, hm, hx, hrun, Result.andThen]
  exact hK w' cnt' r1 r2 r3
set_option maxHeartbeats 2000000 in
theorem badrop_any {B : Nat} {K : Bkk} {S : Bsn} (w : World) (h : Bq w B K S) :
    Calls Try.prog 33 #[bptr K] w fun e w' => e = .returned (.int .i64 ((S.ks.length : Int) - ((drpB S).ks.length : Int))) ∧ Bq w' B K (drpB S) ∧ Frm (bkB K) w w' := by
  obtain ⟨-, -, -, -, -, c5⟩ := h.cells w (Below.refl _ _)
  have hl := h.ce.len
  obtain ⟨D0, hO, hD⟩ := h.ce
  rw [hD.sz] at hO
  have HK : Hid (∀ k ∈ S.ks, KyOk k ∧ 0 ≤ k.1 ∧ k.1 < (S.ba.length : Int)) := h.ok.kk
  have HH : Hid (Bq w B K S) := h
  have HD : Hid (Dm D0 S.ks S.cv) := hD
  have HOK := okb_drp h.ok
  have hkl : S.ks.length ≤ 1024 := by have := h.ok.kl; have := h.ok.m1; omega
  have HP : Hid (Pw w K S) := h.pw
  have hnb : Hid (K.b ≠ K.m) := fun e => h.noB (.inr (.inr e))
  have hgm : Hid (K.gb ≠ K.m) := h.nbm
  clear h hD
  generalize hn : S.ks.length = n at *
  have HN : Hid (S.ks.length = n) := hn
  clear hn
  obtain ⟨b, m, gf, cf, gb, cb, vr⟩ := K
  try dsimp only at *
  go_enter Try.func33, Try.ntmps33
  go_wp2_with (first
    | (at_len; refine len_l rfl rfl _ rfl hl ?_)
    | (at_range; refine wpList_range_own _ rfl _ 81 rfl 40 61 keyed16 Try.underlying81 hldV m n D0 rfl hO ?_; intro w0 hrg0 hg0 hs0))
  go_frame
  have hD0 : Dw w w0 ⟨b, m, gf, cf, gb, cb, vr⟩ S w.heap.size (Maps.has D0) (Maps.size D0) D0 := by
    refine ⟨by rw [HN.out]; exact hrg0, ?_, ?_, ?_, Nat.le_refl _⟩
    · rw [lefK_0 (fun k hk => by rw [HD.out.hs k (HK.out k hk).1]; exact decide_eq_true hk)]
      exact HD.out
    · exact HP.out.keep ⟨hg0.os, hg0.tape, hg0.output, hg0.size, fun i hi => hg0.block i hi (by simp)⟩
    · exact frm_below ⟨hg0.os, hg0.tape, hg0.output, hg0.size, fun i hi => hg0.block i hi (by simp)⟩
  clear hrg0 hg0 hl c5 hO
  go_loopw [18] (fun _ wr => ∃ left cnt D, Dw w wr ⟨b, m, gf, cf, gb, cb, vr⟩ S w.heap.size left cnt D) (fun _ wr => wr.rangeLeft m w.heap.size)
  case atStart => exact ⟨_, _, _, hD0⟩
  case round =>
    clear hD0
    obtain ⟨left, cnt, D, hW⟩ := hrel
    have hrg := hW.rg
    rw [HN.out] at hrg
    have HW : Hid (Dw w wr ⟨b, m, gf, cf, gb, cb, vr⟩ S w.heap.size left cnt D) := hW
    clear hW
    go_wp2_with (at_next; refine wpList_next_ranges _ rfl _ rfl 40 keyed16 hldV (fun x : { k : Kyy // KyOk k } => kyV x.1) id ky_inv2 held_inv m w.heap.size n D left cnt rfl hrg ?_ ?_)
    · intro _ hl0
      have hW := HW.out
      have hOw := hrg.owns
      have hDE : Dm D (drpB S).ks (drpB S).cv := by
        have h1 := hW.dm
        rw [lefK_end hl0] at h1
        exact ⟨h1.sz, h1.hs, fun k hk z => by rw [h1.cl k hk z]; show _ = DataW.held (Value.agg (CA (kepC _ S.cv k))); unfold kepC; rw [if_pos (show k ∈ S.ks.filter (fun k => !pasB S.ba k) from hk)], h1.nd, h1.ok⟩
      have hQ : Bq wr B ⟨b, m, gf, cf, gb, cb, vr⟩ (drpB S) := by
        have hq := HH.out
        have hf : Frm (bkB ⟨b, m, gf, cf, gb, cb, vr⟩) w wr := hW.fr.mono fun k hk => .inr (.inr hk)
        exact hq.upd hf rfl rfl rfl rfl rfl (rw_at hq.fe (hW.fr.other _ hq.fe.lt hq.nfm)) (rw_at hq.be (hW.fr.other _ hq.be.lt hq.nbm)) ⟨D, tight16 hOw, hDE⟩ HOK
      have HF : Hid (Frm (bkB ⟨b, m, gf, cf, gb, cb, vr⟩) w wr) := hW.fr.mono fun k hk => .inr (.inr hk)
      have hl2 := hQ.ce.len
      have c5 : wr.cell? ⟨b, 5, none⟩ = some (.map (some m)) := hQ.blk.at rfl
      have HQ : Hid (Bq wr B ⟨b, m, gf, cf, gb, cb, vr⟩ (drpB S)) := hQ
      have hle : (drpB S).ks.length ≤ n := by rw [← HN.out]; exact List.length_filter_le _ _
      clear hW hOw hDE hQ hrg HW
      generalize hn2 : (drpB S).ks.length = n2 at *
      have HN2 : Hid ((drpB S).ks.length = n2) := hn2
      clear hn2
      go_wp2_with (at_len; refine len_l rfl rfl _ rfl hl2 ?_)
      go_ret
      exact ⟨by rw [HN2.out]; rfl, HQ.out, HF.out⟩
    · intro ka kb kc hk v kl yd yp w1 cnt1 hkey hlk hv hat hrg1 hlt hg1 hs1 hen
      obtain ⟨k, hke⟩ : ∃ k : Kyy, k = (ka, kb, kc) := ⟨_, rfl⟩
      rw [← hke] at hk hkey hen
      obtain rfl : kl = kyL k := by
        rw [key16 hk] at hkey
        exact (Option.some.inj hkey).symm
      have hW := HW.out
      have hmem : k ∈ lefK S.ba S.ks left := by
        have h1 := hW.dm.hs k hk
        rw [has_true_of_atKey hat] at h1
        exact of_decide_eq_true h1.symm
      have hkS := (List.mem_filter.1 hmem).1
      obtain ⟨-, k0, k1⟩ := HK.out k hkS
      have hokS : ∀ k ∈ S.ks, KyOk k := fun k hk => (HK.out k hk).1
      have hfr1 : Frm (fun k => k = m) w w1 := hW.fr.young (frm_grown (X := fun k => k = w.heap.size) hg1 rfl) (fun k hk e => by omega)
      have hP1 : Pw w1 ⟨b, m, gf, cf, gb, cb, vr⟩ S := by
        have hq := HH.out
        exact hq.pw.frm hfr1 hnb.out hgm.out
      have HT : Hid (Tidy D) := hrg.owns.tidy keyed16
      have HDM : Hid (Dm D (lefK S.ba S.ks left) S.cv) := hW.dm
      clear hW HW hlk hv hat hs1
      have hc5 : ∀ V, Below w1.heap.size w1 V → V.cell? ⟨b, 5, none⟩ = some (.map (some m)) := fun V hb => (hP1.blk.keep hb).at rfl
      subst hke
      unfold kyV at hen
      try dsimp only at hen k0 k1
      obtain ⟨A, hE, hX, hw⟩ := blk1 w1 #[.int .i64 ka, .int .i64 kb, .int .i64 kc] 40
      have y0 : A.cell? ⟨w1.heap.size, 0, none⟩ = some (.int .i64 ka) := hX.at rfl
      have y1 : A.cell? ⟨w1.heap.size, 1, none⟩ = some (.int .i64 kb) := hX.at rfl
      have y2 : A.cell? ⟨w1.heap.size, 2, none⟩ = some (.int .i64 kc) := hX.at rfl
      have HC := bapast_any (ka, kb, kc) A (hP1.keep hw) k0 k1
      unfold kyV at HC
      cases hp : pasB S.ba (ka, kb, kc)
      · rw [hp] at HC
        go_wp2_with (go_at_call 51; refine HC.mono ?_; rintro e W2 ⟨rfl, b2⟩)
        have bw := ab_trans hw b2
        have hN : Dw w W2 ⟨b, m, gf, cf, gb, cb, vr⟩ S w.heap.size (fun z => left z && !z.sameKey (kyL (ka, kb, kc))) cnt1 D := by
          have : Dw w w1 ⟨b, m, gf, cf, gb, cb, vr⟩ S w.heap.size (fun z => left z && !z.sameKey (kyL (ka, kb, kc))) cnt1 D :=
            ⟨by rw [HN.out]; exact hrg1, by rw [lefK_stay hokS hk hp]; exact HDM.out, hP1, hfr1, Nat.le_refl _⟩
          exact this.keep bw
        have hrN := hN.rg
        go_roundw
        case rel => exact ⟨_, _, _, hN⟩
        case measure => rw [hrN.left_eq, hrg.left_eq]; exact hlt
      · rw [hp] at HC
        go_upto_region 6 with (go_at_call 51; refine HC.mono ?_; rintro e W2 ⟨rfl, b2⟩)
        have bw := ab_trans hw b2
        have hX2 := hX.keep b2
        have c5 := hc5 _ bw
        have g0 : W2.cell? ⟨w1.heap.size, 0, none⟩ = some (.int .i64 ka) := hX2.at rfl
        have g1 : W2.cell? ⟨w1.heap.size, 1, none⟩ = some (.int .i64 kb) := hX2.at rfl
        have g2 : W2.cell? ⟨w1.heap.size, 2, none⟩ = some (.int .i64 kc) := hX2.at rfl
        refine wp_region_held_drew (S := fun w' => w'.cell? ⟨b, 5, none⟩ = some (.map (some m)) ∧ w'.cell? ⟨w1.heap.size, 0, none⟩ = some (.int .i64 ka) ∧ w'.cell? ⟨w1.heap.size, 1, none⟩ = some (.int .i64 kb) ∧ w'.cell? ⟨w1.heap.size, 2, none⟩ = some (.int .i64 kc)) (by kernel_rfl) ⟨c5, g0, g1, g2⟩ (fun hHeld => ?_)
        have bV : Below w1.heap.size w1 W2.drew := ab_drew bw
        have hXV : Blk W2.drew w1.heap.size #[.int .i64 ka, .int .i64 kb, .int .i64 kc] 40 := hX2
        clear c5 g0 g1 g2 hX2 bw b2 y0 y1 y2 hE hX hw
        generalize W2.drew = V at *
        refine takeH (i := 0) (some 22) rfl rfl (by kernel_rfl) (by kernel_rfl) (by kernel_rfl) (fun _ _ _ h => h) (by rfl) (fun w hSw => by (try dsimp only at hSw); go_simp; try rfl) hHeld ?_
        go_frame
        refine takeH (i := 1) (some 23) rfl rfl (by kernel_rfl) (by kernel_rfl) (by kernel_rfl) (fun _ _ _ h => h) (by rfl) (fun w hSw => by (try dsimp only at hSw); go_simp; try rfl) hHeld ?_
        go_frame
        refine takeH (i := 2) (some 24) rfl rfl (by kernel_rfl) (by kernel_rfl) (by kernel_rfl) (fun _ _ _ h => h) (by rfl) (fun w hSw => by (try dsimp only at hSw); go_simp; try rfl) hHeld ?_
        go_frame
        refine takeH (i := 3) (some 25) rfl rfl (by kernel_rfl) (by kernel_rfl) (by kernel_rfl) (fun _ _ _ h => h) (by rfl) (fun w hSw => by (try dsimp only at hSw); (obtain ⟨q5, q0, q1, q2⟩ := hSw; go_simp; try rfl)) hHeld ?_
        go_frame
        refine takeH (i := 4) (some 26) rfl rfl (by kernel_rfl) (by kernel_rfl) (by kernel_rfl) (fun _ _ _ h => h) (by rfl) (fun w hSw => by (try dsimp only at hSw); (obtain ⟨q5, q0, q1, q2⟩ := hSw; go_simp; try rfl)) hHeld ?_
        go_frame
        have hD1 : Dw w w1 ⟨b, m, gf, cf, gb, cb, vr⟩ S w.heap.size (fun z => left z && !z.sameKey (kyL (ka, kb, kc))) cnt1 D → True := fun _ => trivial
        have hrV : V.ranges Try.prog 40 hldV m w.heap.size n D (fun z => left z && !z.sameKey (kyL (ka, kb, kc))) cnt1 := by
          obtain ⟨es, clock, since, seen, c0, h1, h2, h3, h4, h5, h6⟩ := hrg1
          have l1 : m < w1.heap.size := (Array.getElem?_eq_some_iff.1 h1).1
          have l2 : w.heap.size < w1.heap.size := (Array.getElem?_eq_some_iff.1 h5).1
          exact ⟨es, clock, since, seen, c0, (bV.block _ l1).trans h1, h2, h3, h4, (bV.block _ l2).trans h5, h6⟩
        refine wpAnyH_ready (rs := [5]) (by kernel_rfl) (by simp) (AllReadyH.cons rfl (fun K hK => ?_) AllReadyH.nil)
        rw [if_pos (by rfl)]
        refine delRW _ rfl _ _ 81 40 rfl 61 keyed16 Try.underlying81 hldV m w.heap.size n D _ cnt1 rfl hrV (kyV (ka, kb, kc)) (kyL (ka, kb, kc)) rfl (key16 hk) ?_
        intro W3 cnt3 hr3 hle3 ht3
        rw [strike_twice] at hr3
        have hF3 : Frm (fun k => k = m) V W3 := frm_grown ht3.grown rfl
        have hPV := hP1.keep bV
        have hP3 : Pw W3 ⟨b, m, gf, cf, gb, cb, vr⟩ S := hPV.frm hF3 hnb.out hgm.out
        have hmlt : w1.heap.size ≠ m := by
          obtain ⟨es, clock, since, seen, c0, h1, h2⟩ := hrg1
          have l1 : m < w1.heap.size := (Array.getElem?_eq_some_iff.1 h1).1
          omega
        have hX3 := hXV.frm hF3 hmlt
        have hN : Dw w W3 ⟨b, m, gf, cf, gb, cb, vr⟩ S w.heap.size (fun z => left z && !z.sameKey (kyL (ka, kb, kc))) cnt3 (D.del (kyL (ka, kb, kc))) :=
          ⟨by rw [HN.out]; exact hr3, by rw [lefK_gone hokS hk hp]; exact HDM.out.del HT.out hmem, hP3, (hfr1.trans (frm_below bV)).trans hF3, Nat.le_refl _⟩
        refine hK.out _ _ ⟨hP3.blk.at rfl, hX3.at rfl, hX3.at rfl, hX3.at rfl⟩ (fun hHeld => ?_)
        refine wpAnyH_done (by kernel_rfl) ?_ _
        clear hK K
        have hrN := hN.rg
        go_wp2_with fail
        go_roundw
        case rel => exact ⟨_, _, _, hN⟩
        case measure => rw [hrN.left_eq, hrg.left_eq]; omega
end Go.Proofs.Ytogbhiklhcibdaa
namespace Go.Proofs.Ytogbhiklhcibdaa
open Go.RowKit Go.Maps
set_option linter.unusedVariables false
set_option maxRecDepth 100000

def E3k : En Kyy := ⟨3, fun p => [.int .i64 p.1, .int .i64 p.2.1, .int .i64 p.2.2], fun _ => rfl, fun x u hu => by simp at hu; rcases hu with rfl | rfl | rfl <;> rfl, by omega⟩
theorem e3k_flat (l : List Kyy) : E3k.fl l = flat3 l := rfl
def zKy : Kyy := (0, 0, 0)
theorem zeroId (w : World) : (zeroValue 40).run Try.prog w = .ok (.agg #[.int .i64 0, .int .i64 0, .int .i64 0]) w := by kernel_rfl
theorem eltId : Try.prog.underlying 36 = some (.slice (Try.prog.elem 36)) := by kernel_rfl
theorem sizeId (w : World) : (sizeOf (Try.prog.elem 36)).run Try.prog w = .ok 3 w := by kernel_rfl
theorem info_id3 : (Try.prog.info? 40).map (·.size) = some 3 := by kernel_rfl
/-- A name of one of the lanes. -/
def LaK (S : Bsn) (k : Kyy) : Prop := 0 ≤ k.1 ∧ k.1 < (S.ba.length : Int)
/-- A row of names turns. -/
theorem Pw.chgK {W W' : World} {K : Bkk} {S : Bsn} {g : Nat} (h : Pw W K S) (hc : Chg g W W') (hk : kindR W g 40) : Pw W' K S := by
  have h1 : K.b ≠ g := fun e => absurd (h.blk.kindR.uniq (e ▸ hk)) (by decide)
  have h2 : K.gb ≠ g := fun e => absurd ((rw_kind h.be).uniq (e ▸ hk)) (by decide)
  exact ⟨h.blk.chg hc h1, rw_at h.be (hc.other _ h2)⟩
/-- The function value that pour hands over. -/
abbrev pasV (K : Bkk) : Value := .func (.func 51) #[bptr K] #[]
theorem bapast1_any {K : Bkk} {S : Bsn} (o : Kyy) (w : World) (h : Pw w K S) (hf : LaK S o) : Calls Try.prog 51 #[bptr K, kyV o] w fun e w' => e = .returned (.bool (pasB S.ba o)) ∧ Below w.heap.size w w' := bapast_any o w h hf.1 hf.2
/-- A name into a row of them. -/
theorem st_rwK {ops : Array Oper} {rest : List Oper} {o : Oper} {a : Act} {w : World} {Q : Exit → Act → World → Prop} (hw : Region.wanted o (yielded ops a.tmps) = true) {x y : Operand} (ho : o.op = .store 40 x y) {g cap i : Nat} {L : List Kyy} {c : Kyy} (h : Rw E3k 40 w g cap L) (hi : i < L.length) (hx : a.eval x = .pointer (some ⟨g, i * 3, none⟩)) (hy : a.eval y = kyV c)
    (hK : ∀ W', Rw E3k 40 W' g cap (L.set i c) → Chg g w W' → wpList Try.prog ops Q rest (a.put o.dst undef) W') : wpList Try.prog ops Q (o :: rest) a w := by
  unfold wpList
  rw [if_pos hw]
  left
  exact stEW o.dst rfl ho h hi c #[.int .i64 c.1, .int .i64 c.2.1, .int .i64 c.2.2] rfl rfl hx hy info_id3 hK
/-- clear, where its run is known. -/
theorem clrB_l {P : Program} {ops : Array Oper} {rest : List Oper} {o : Oper} {a : Act} {w : World} {Q : Exit → Act → World → Prop} (hw : Region.wanted o (yielded ops a.tmps) = true) {x : Operand} {t : TypeId} (ho : o.op = .call { callee := .builtin .clear, args := #[x], argTypes := #[t] }) (v : Value) (hx : a.eval x = v) {v' : Value} {w' : World}
    (hr : ∀ ty, (Builtin.clear_ #[t] ty #[v]).run P w = .ok v' w') (h : wpList P ops Q rest (a.put o.dst v') w') : wpList P ops Q (o :: rest) a w := by
  unfold wpList
  rw [if_pos hw]
  left
  unfold Oper.wp execOp
  simp only [ho, resolve, invoke, builtin, Sem.run_bind, Sem.run_pure, Result.andThen_ok, List.map_toArray, List.map_cons, List.map_nil, hx, hr]
  exact h
set_option maxHeartbeats 1000000 in
theorem baindex_any (v : Value) (l : List Kyy) {K : Bkk} {S : Bsn} (w : World) (hv : ER E3k w v l) (h : Pw w K S) (hf : ∀ o ∈ l, LaK S o) (hl : l.length ≤ 100000) :
    Calls Try.prog 68 #[v, pasV K] w fun e w' => ∃ i : Int, e = .returned (.int .i64 i) ∧ ((i = -1 ∧ ∀ o ∈ l, pasB S.ba o = false) ∨ (∃ k : Nat, i = (k : Int) ∧ k < l.length ∧ (∀ o ∈ l.take k, pasB S.ba o = false) ∧ ∀ o, l[k]? = some o → pasB S.ba o = true)) ∧ Below w.heap.size w w' := by
  obtain ⟨q, cap, g, off, rfl, hc, hm, hp, hr⟩ := hv.at
  generalize hn : l.length = n at *
  go_enter Try.func68, Try.ntmps68
  go_wp2_with fail
  go_loopw [8] (fun i wr => ∃ k : Nat, k ≤ n ∧ i = .int .i64 (k : Int) ∧ (∀ x ∈ l.take k, pasB S.ba x = false) ∧ Below w.heap.size w wr) (fun i _ => n - (intOf i).toNat)
  case atStart => exact ⟨0, by omega, rfl, fun x hx => by simp at hx, Below.refl _ _⟩
  case round =>
    obtain ⟨k, hk, rfl, hall, hw⟩ := hrel
    by_cases c : k = n
    · subst c
      have HV : Hid (∀ o ∈ l, pasB S.ba o = false) := by
        rw [List.take_of_length_le (by omega)] at hall
        exact hall
      clear hall hr
      go_wp2_with fail
      go_ret
      exact ⟨-1, rfl, .inl ⟨rfl, HV.out⟩, hw⟩
    · obtain ⟨o, ho⟩ : ∃ o, l[k]? = some o := ⟨l[k], List.getElem?_eq_getElem (by omega)⟩
      obtain ⟨rfl, hgk⟩ := hp (by omega)
      have z0 := keep_cell hw (hr k o ho 0 _ rfl) hgk
      have z1 := keep_cell hw (hr k o ho 1 _ rfl) hgk
      have z2 := keep_cell hw (hr k o ho 2 _ rfl) hgk
      rw [Nat.add_zero, show E3k.k = 3 from rfl] at z0
      rw [show E3k.k = 3 from rfl] at z1 z2
      have hki : (k : Int) < (n : Int) := by omega
      have hcw := h.keep hw
      have hfo := hf o (List.mem_of_getElem? ho)
      have HC := bapast1_any o wr hcw hfo
      unfold kyV at HC
      cases hcv : pasB S.ba o
      · have HV : Hid (∀ x ∈ l.take (k + 1), pasB S.ba x = false) := by
          intro x hm
          rw [List.take_add_one, ho] at hm
          simp only [Option.toList_some, List.mem_append, List.mem_singleton] at hm
          rcases hm with hm | rfl
          · exact hall x hm
          · exact hcv
        rw [hcv] at HC
        clear hall hr
        go_wp2_with (go_at_call 51; refine HC.mono ?_; rintro e W2 ⟨rfl, b2⟩)
        go_roundw
        case rel => exact ⟨k + 1, by omega, by go_num, HV.out, ab_trans hw b2⟩
        case measure => simp [intOf]; omega
      · have HA : Hid (∀ o ∈ l.take k, pasB S.ba o = false) := hall
        have HB : Hid (∀ x, l[k]? = some x → pasB S.ba x = true) := fun x hx => by rw [ho] at hx; cases hx; exact hcv
        rw [hcv] at HC
        clear hall hr
        go_wp2_with (go_at_call 51; refine HC.mono ?_; rintro e W2 ⟨rfl, b2⟩)
        go_ret
        exact ⟨(k : Int), rfl, .inr ⟨k, rfl, by omega, HA.out, HB.out⟩, ab_trans hw b2⟩
/-- How far DeleteFunc has come. -/
structure DlK (l L : List Kyy) (p : Kyy → Bool) (i j : Nat) : Prop where
  len : L.length = l.length
  lt : i < j
  le : j ≤ l.length
  fst : L.take i = (l.take j).filter p
  lst : L.drop j = l.drop j
theorem DlK.i {l L : List Kyy} {p : Kyy → Bool} {i j : Nat} (h : DlK l L p i j) : i = ((l.take j).filter p).length := by
  rw [← h.fst, List.length_take, h.len, Nat.min_eq_left (by have := h.lt; have := h.le; omega)]
theorem filt_snocK {l : List Kyy} {p : Kyy → Bool} {j : Nat} {o : Kyy} (ho : l[j]? = some o) : (l.take (j + 1)).filter p = (l.take j).filter p ++ (if p o = true then [o] else []) := by
  rw [List.take_add_one, ho, List.filter_append]
  congr 1
  simp only [Option.toList_some, List.filter_cons, List.filter_nil]
theorem DlK.at {l L : List Kyy} {p : Kyy → Bool} {i j : Nat} (h : DlK l L p i j) (hj : j < l.length) : L[j]? = l[j]? := by
  have e1 := List.getElem?_drop (xs := L) (i := j) (j := 0)
  have e2 := List.getElem?_drop (xs := l) (i := j) (j := 0)
  rw [Nat.add_zero] at e1 e2
  rw [← e1, ← e2, h.lst]
theorem DlK.skip {l L : List Kyy} {p : Kyy → Bool} {i j : Nat} {o : Kyy} (h : DlK l L p i j) (ho : l[j]? = some o) (hp : p o = false) : DlK l L p i (j + 1) := by
  have hj := (List.getElem?_eq_some_iff.1 ho).1
  refine ⟨h.len, by have := h.lt; omega, hj, ?_, ?_⟩
  · rw [filt_snocK ho, hp, h.fst]; simp
  · rw [← List.drop_drop, ← List.drop_drop, h.lst]
theorem DlK.take {l L : List Kyy} {p : Kyy → Bool} {i j : Nat} {o : Kyy} (h : DlK l L p i j) (ho : l[j]? = some o) (hp : p o = true) : DlK l (L.set i o) p (i + 1) (j + 1) := by
  have hj := (List.getElem?_eq_some_iff.1 ho).1
  have hlt := h.lt
  have hi : i < L.length := by rw [h.len]; omega
  refine ⟨by rw [List.length_set, h.len], by omega, hj, ?_, ?_⟩
  · rw [filt_snocK ho, hp, ← h.fst, List.take_add_one, List.take_set_of_le (Nat.le_refl _), List.getElem?_set_self hi]; simp
  · rw [List.drop_set_of_lt (by omega), ← List.drop_drop, ← List.drop_drop, h.lst]
theorem DlK.start {l : List Kyy} {p : Kyy → Bool} {k : Nat} (hk : k < l.length) (h1 : ∀ o ∈ l.take k, p o = true) (h2 : ∀ o, l[k]? = some o → p o = false) : DlK l l p k (k + 1) := by
  obtain ⟨o, ho⟩ : ∃ o, l[k]? = some o := ⟨l[k], List.getElem?_eq_getElem hk⟩
  refine ⟨rfl, by omega, hk, ?_, rfl⟩
  rw [filt_snocK ho, h2 o ho, List.filter_eq_self.2 h1]; simp
set_option maxHeartbeats 2000000 in
theorem badelete_any (l : List Kyy) (v : Value) {B : Nat} {K : Bkk} {S : Bsn} (w : World) (hO : EO E3k 40 w B v l) (h : Pw w K S) (hf : ∀ o ∈ l, LaK S o) (hl : l.length ≤ 100000) :
    Calls Try.prog 60 #[v, pasV K] w fun e w' => ∃ v', e = .returned v' ∧ EO E3k 40 w' B v' (l.filter fun o => !pasB S.ba o) ∧ Frm (fun k => v.ownBlock = some k) w w' ∧ ∀ r, v'.ownBlock = some r → v.ownBlock = some r := by
  obtain ⟨q, cap, g, off, rfl, hc, hm, hp, -⟩ := hO.er
  have HO : Hid (EO E3k 40 w B (.slice q l.length cap) l) := hO
  have hER := hO.er
  clear hO
  go_enter Try.func60, Try.ntmps60
  go_upto_region 2 with (go_at_call 68; refine (baindex_any _ l _ hER h hf hl).mono ?_; rintro e W1 ⟨i, rfl, hi, b1⟩)
  have HO1 : Hid (EO E3k 40 W1 B (.slice q l.length cap) l) := HO.out.keep b1
  have h1 := h.keep b1
  have hfr1 : Frm (fun k => (Value.slice q l.length cap).ownBlock = some k) w W1 := frm_below b1
  clear h HO hER b1
  rcases hi with ⟨rfl, hall⟩ | ⟨k, rfl, hk, hbef, hat⟩
  · have HV : Hid (l.filter (fun o => !pasB S.ba o) = l) := by
      show _ = _
      rw [List.filter_eq_self]
      intro o ho
      rw [hall o ho]; rfl
    clear hall
    go_wp2_with fail
    go_ret
    exact ⟨_, rfl, by rw [HV.out]; exact HO1.out, hfr1, fun r hr => hr⟩
  · have hD0 : DlK l l (fun o => !pasB S.ba o) k (k + 1) := DlK.start hk (fun o ho => by rw [hbef o ho]; rfl) (fun o ho => by rw [hat o ho]; rfl)
    obtain ⟨rfl, -⟩ := hp (by omega)
    clear hbef hat hp
    have hoff : off = 0 := by
      have := HO1.out.2
      rcases this with ⟨h2, _⟩ | ⟨g', cap', cur, e1, _⟩
      · cases h2
      · cases e1; rfl
    subst hoff
    obtain ⟨hR1, hBg⟩ := HO1.out.rw
    have hkm : ¬ ((k : Int) = -1) := by omega
    generalize hn : l.length = n at *
    clear HO1
    go_wp2_with fail
    go_loopw [5, 6] (fun x y wr => ∃ (i j : Nat) (L : List Kyy), x = .int .i64 (i : Int) ∧ y = .int .i64 (j : Int) ∧ DlK l L (fun o => !pasB S.ba o) i j ∧ Rw E3k 40 wr g cap L ∧ Pw wr K S ∧ Frm (fun k => (Value.slice (some ⟨g, 0, none⟩) n cap).ownBlock = some k) w wr) (fun _ y _ => n - (intOf y).toNat)
    case atStart => exact ⟨k, k + 1, l, rfl, by go_num, hD0, hR1, h1, hfr1⟩
    case round =>
      clear hD0 hR1 h1 hfr1
      obtain ⟨i, j, L, rfl, rfl, hD, hR, hC, hF⟩ := hrel
      have hLl := hD.len
      have hij := hD.lt
      have hjn := hD.le
      rw [hn] at hLl hjn
      by_cases c : j = n
      · subst c
        have hnc := hR.1
        rw [hLl] at hnc
        obtain ⟨o', es, ho'⟩ := sliced_some g 0 i j cap 3
        have ho2 := ho' (by omega)
        rw [Nat.zero_add] at ho2
        subst ho2
        have hcl := fun (ty : TypeId) => rw_clear (P := Try.prog) (ty := ty) (c := cap - i) zKy rfl Try.underlying36 zeroId hR (i := i) (n := j - i) (by omega) (by omega)
        obtain ⟨W2, hr2, hR2, C2⟩ := hcl 0
        have hr2' : ∀ ty, (Builtin.clear_ #[36] ty #[.slice (some ⟨g, i * 3, none⟩) (j - i) (cap - i)]).run Try.prog wr = .ok (.tuple #[]) W2 := fun ty => hr2
        have HR2 := hR2.eo hBg (i := i) (by rw [List.length_append, List.length_append, List.length_take, List.length_replicate]; omega)
        have HT : Hid (EO E3k 40 W2 B (.slice (some ⟨g, 0, none⟩) i cap) (l.filter fun o => !pasB S.ba o)) := by
          have e1 : (L.take i ++ List.replicate (j - i) zKy ++ L.drop (i + (j - i))).take i = L.take i := by
            rw [List.append_assoc, List.take_left' (by rw [List.length_take]; omega)]
          rw [e1, hD.fst, List.take_of_length_le (by omega)] at HR2
          exact HR2
        have hF2 := hF.trans (frm_chg (X := fun k => (Value.slice (some ⟨g, 0, none⟩) j cap).ownBlock = some k) C2 rfl)
        clear hcl hr2 hR2 HR2 hR hC C2 hD hF ho'
        go_wp2_with (first
          | (refine valS rfl _ (slo_l (o' := i * 3) rfl rfl rfl rfl eltId (sizeId _) (by omega) (by omega) es) ?_)
          | (refine valS rfl _ (slo_h rfl rfl rfl rfl eltId (sizeId _) (by omega)) ?_)
          | (refine clrB_l rfl rfl _ rfl hr2' ?_))
        go_ret
        exact ⟨_, rfl, HT.out, hF2, fun r hr => hr⟩
      · have hji : (j : Int) < (n : Int) := by omega
        obtain ⟨o, ho⟩ : ∃ o, l[j]? = some o := ⟨l[j], List.getElem?_eq_getElem (by omega)⟩
        have hoL : L[j]? = some o := by rw [hD.at (by omega)]; exact ho
        have z0 : wr.cell? ⟨g, j * 3, none⟩ = some (.int .i64 o.1) := hR.cell (i := 0) hoL rfl
        have z1 : wr.cell? ⟨g, j * 3 + 1, none⟩ = some (.int .i64 o.2.1) := hR.cell (i := 1) hoL rfl
        have z2 : wr.cell? ⟨g, j * 3 + 2, none⟩ = some (.int .i64 o.2.2) := hR.cell (i := 2) hoL rfl
        obtain ⟨A, hE, hX, hw⟩ := blk1 wr #[.int .i64 o.1, .int .i64 o.2.1, .int .i64 o.2.2] 40
        have HC := bapast1_any o A (hC.keep hw) (hf o (List.mem_of_getElem? ho))
        have y0 : A.cell? ⟨wr.heap.size, 0, none⟩ = some (.int .i64 o.1) := hX.at rfl
        have y1 : A.cell? ⟨wr.heap.size, 1, none⟩ = some (.int .i64 o.2.1) := hX.at rfl
        have y2 : A.cell? ⟨wr.heap.size, 2, none⟩ = some (.int .i64 o.2.2) := hX.at rfl
        unfold kyV at HC
        cases hcv : pasB S.ba o
        · rw [hcv] at HC
          go_upto_region 9 with (go_at_call 51; refine HC.mono ?_; rintro e W2 ⟨rfl, b2⟩)
          have HD : Hid (DlK l (L.set i o) (fun o => !pasB S.ba o) (i + 1) (j + 1)) := hD.take ho (by rw [hcv]; rfl)
          have hX2 := hX.keep b2
          have g0 : W2.cell? ⟨wr.heap.size, 0, none⟩ = some (.int .i64 o.1) := hX2.at rfl
          have g1 : W2.cell? ⟨wr.heap.size, 1, none⟩ = some (.int .i64 o.2.1) := hX2.at rfl
          have g2 : W2.cell? ⟨wr.heap.size, 2, none⟩ = some (.int .i64 o.2.2) := hX2.at rfl
          have bw := ab_trans hw b2
          have hR2 := hR.keep bw
          have hC2 := hC.keep bw
          have hF2 := hF.trans (frm_below bw)
          have hin : (i : Int) < (n : Int) := by omega
          have hiL : i < L.length := by omega
          clear hE y0 y1 y2 z0 z1 z2 hD HC hw b2 hX hR hC hF hX2
          go_wp2_with (refine st_rwK rfl rfl (c := o) hR2 hiL rfl rfl ?_; intro W3 hR3 C3)
          have hC3 := hC2.chgK C3 (rw_kind hR2)
          have hF3 := hF2.trans (frm_chg (X := fun k => (Value.slice (some ⟨g, 0, none⟩) n cap).ownBlock = some k) C3 rfl)
          refine ⟨⟨_, _, _, _, _, _, _, _, _, _, _, _, _, _, _, _, _, _, _, _, _, _, _, ?_, rfl⟩, ?_⟩
          · exact ⟨i + 1, j + 1, _, by go_num, by go_num, HD.out, hR3, hC3, hF3⟩
          · simp [intOf]; omega
        · have HD : Hid (DlK l L (fun o => !pasB S.ba o) i (j + 1)) := hD.skip ho (by rw [hcv]; rfl)
          rw [hcv] at HC
          clear hD
          go_wp2_with (go_at_call 51; refine HC.mono ?_; rintro e W2 ⟨rfl, b2⟩)
          have bw := ab_trans hw b2
          refine ⟨⟨_, _, _, _, _, _, _, _, _, _, _, _, _, _, _, _, _, _, _, _, _, _, _, ?_, rfl⟩, ?_⟩
          · exact ⟨i, j + 1, L, rfl, by go_num, HD.out, hR.keep bw, hC.keep bw, hF.trans (frm_below bw)⟩
          · simp [intOf]; omega
end Go.Proofs.Ytogbhiklhcibdaa
namespace Go.Proofs.Ytogbhiklhcibdaa
open Go.RowKit Go.Maps
set_option linter.unusedVariables false
set_option maxRecDepth 100000

theorem ld_ky {W : World} {g : Nat} {k : Kyy} {t : TypeId} (h : Blk W g #[.int .i64 k.1, .int .i64 k.2.1, .int .i64 k.2.2] t) : W.cell? ⟨g, 0, none⟩ = some (.int .i64 k.1) ∧ W.cell? ⟨g, 1, none⟩ = some (.int .i64 k.2.1) ∧ W.cell? ⟨g, 2, none⟩ = some (.int .i64 k.2.2) := ⟨h.at rfl, h.at rfl, h.at rfl⟩
/-- A look-up in a map, where its run is known. -/
theorem lkW {P : Program} {ρ : Operand → Value} {o : Oper} {t : TypeId} {x y : Operand} {b : Bool} (ho : o.op = .lookup t x y b) {mv kv v : Value} (hx : ρ x = mv) (hy : ρ y = kv) {w : World} (hr : (Instr.lookup t mv kv b).run P w = .ok v w) : (execOp ρ o).run P w = .ok (.value v) w := by
  unfold execOp
  simp only [ho, hx, hy, Sem.run_bind, hr, Result.andThen_ok, Sem.run_pure]
end Go.Proofs.Ytogbhiklhcibdaa
namespace Go.Proofs.Ytogbhiklhcibdaa
open Go.RowKit Go.Maps
set_option linter.unusedVariables false
set_option maxRecDepth 100000

abbrev Ent := (Int × Int) × (Nat → Int)
def entA (x : Ent) : Array Value := (([.int .i64 x.1.1, .int .i64 x.1.2] : List Value) ++ (CA x.2).toList).toArray
theorem entA_size (x : Ent) : (entA x).size = 76 := by simp [entA, CA_size]
def EE : En Ent := ⟨76, fun x => (entA x).toList, fun x => by rw [Array.length_toList, entA_size], fun x u hu => by
  have h1 : u ∈ ([.int .i64 x.1.1, .int .i64 x.1.2] : List Value) ++ (CA x.2).toList := by simpa [entA] using hu
  rcases List.mem_append.1 h1 with h1 | h1
  · simp at h1; rcases h1 with rfl | rfl <;> rfl
  · exact List.all_eq_true.1 (by rw [Array.all_toList]; exact CA_one x.2) u h1, by omega⟩
def zEnt : Ent := ((0, 0), zc)
theorem infoEntB : (Try.prog.info? 63).map (fun i => (i.zero, i.size, i.bytes)) = some (some (.agg (entA zEnt)), 76, 608) := by kernel_rfl
theorem sizeEnt (x : Ent) : (Try.prog.info? 63).map (·.size) = some (entA x).size := by rw [entA_size]; kernel_rfl
theorem built_entB (x y : Int) (c : Nat → Int) : Try.prog.built 63 [(0, .agg #[.int .i64 x, .int .i64 y]), (1, .agg (CA c))] = some (entA ((x, y), c)) := by kernel_rfl
/-- The entries so far, and zeros behind them. -/
def mixE (L : List Ent) (c k : Nat) : List Ent := L.take k ++ List.replicate (c - k) zEnt
theorem mixE_len {L : List Ent} {c k : Nat} (h : L.length = c) (hk : k ≤ c) : (mixE L c k).length = c := by
  unfold mixE; rw [List.length_append, List.length_take, List.length_replicate]; omega
theorem mixE_set {L : List Ent} {c k : Nat} {x : Ent} (h : L.length = c) (hx : L[k]? = some x) : (mixE L c k).set k x = mixE L c (k + 1) := by
  have hk := (List.getElem?_eq_some_iff.1 hx).1
  have hl : (L.take k).length = k := by rw [List.length_take]; omega
  unfold mixE
  rw [List.set_append_right _ _ (by omega), hl, Nat.sub_self, List.take_add_one, hx, show c - k = (c - (k + 1)) + 1 by omega, List.replicate_succ, List.set_cons_zero]
  simp
/-- What List answers of places. -/
def entL (S : Bsn) (lane : Int) (P : List (Int × Int)) (c : Nat) : List Ent := (P.take c).map fun p => (p, S.cv (lane, p))
theorem entL_at {S : Bsn} {lane : Int} {P : List (Int × Int)} {c k : Nat} {p : Int × Int} (hk : k < c) (hp : P[k]? = some p) : (entL S lane P c)[k]? = some (p, S.cv (lane, p)) := by
  unfold entL
  rw [List.getElem?_map, List.getElem?_take_of_lt hk, hp]
  rfl
theorem entL_len {S : Bsn} {lane : Int} {P : List (Int × Int)} {c : Nat} (hc : c ≤ P.length) : (entL S lane P c).length = c := by
  unfold entL; rw [List.length_map, List.length_take]; omega
theorem balist_no {B : Nat} {K : Bkk} {S : Bsn} (n : Int) (p : Int × Int) (mo : Int) (w : World) (h : Bq w B K S) (hn : hasN n S.ba.length = false ∨ mo < 1) :
    Calls Try.prog 46 #[bptr K, .int .i64 n, Plc p.1 p.2, .int .i64 mo] w fun e w' => e = .returned (.slice none 0 0) ∧ Below w.heap.size w w' := by
  obtain ⟨A, hE, hX, hw⟩ := blk1 w #[.int .i64 p.1, .int .i64 p.2] 24
  have HS := bhasL_any n A (h.keep hw)
  clear h
  obtain ⟨b, m, gf, cf, gb, cb, vr⟩ := K
  obtain ⟨p0, p1⟩ := p
  try dsimp only at *
  cases hb : hasN n S.ba.length
  · rw [hb] at HS
    go_enter Try.func46, Try.ntmps46
    go_wp2_with (go_at_call 22; refine HS.mono ?_; rintro e W ⟨rfl, rfl⟩)
    go_ret
    exact ⟨rfl, hw⟩
  · rw [hb] at HS hn
    have hm : mo < 1 := by rcases hn with h | h; cases h; exact h
    go_enter Try.func46, Try.ntmps46
    go_wp2_with (go_at_call 22; refine HS.mono ?_; rintro e W ⟨rfl, rfl⟩)
    go_ret
    exact ⟨rfl, hw⟩
theorem balist_nil (n : Int) (p : Int × Int) (mo : Int) (w : World) :
    Calls Try.prog 46 #[.pointer none, .int .i64 n, Plc p.1 p.2, .int .i64 mo] w fun e w' => e = .returned (.slice none 0 0) ∧ Below w.heap.size w w' := by
  obtain ⟨A, hE, hX, hw⟩ := blk1 w #[.int .i64 p.1, .int .i64 p.2] 24
  obtain ⟨p0, p1⟩ := p
  try dsimp only at *
  go_enter Try.func46, Try.ntmps46
  go_wp2_with (go_at_call 22; refine (bhasL_nil _ _).mono ?_; rintro e W ⟨rfl, rfl⟩)
  go_ret
  exact ⟨rfl, hw⟩
set_option maxHeartbeats 2000000 in
theorem balist_of {B : Nat} {K : Bkk} {S : Bsn} (i : Nat) (pt : Int × Int) (mo : Int) (P : List (Int × Int)) (w : World) (h : Bq w B K S) (hi : i < S.ba.length) (hm : 1 ≤ mo) (hP : P.length ≤ 2000) (hk : ∀ p ∈ P, KyOk ((i : Int), p))
    (hA : ∀ W, Below w.heap.size w W → Calls Try.prog 57 #[bptr K, .int .i64 (i : Int), Plc pt.1 pt.2] W fun e w' => ∃ v, e = .returned v ∧ EO E2 24 w' w.heap.size v P ∧ Below W.heap.size W w') :
    Calls Try.prog 46 #[bptr K, .int .i64 (i : Int), Plc pt.1 pt.2, .int .i64 mo] w fun e w' => ∃ v, e = .returned v ∧ EO EE 63 w' w.heap.size v (entL S (i : Int) P (min mo (P.length : Int)).toNat) ∧ Below w.heap.size w w' := by
  obtain ⟨A, hE, hX, hw⟩ := blk1 w #[.int .i64 pt.1, .int .i64 pt.2] 24
  have hB := h.keep hw
  have HS := bhasL_any (i : Int) A hB
  have hh : hasN (i : Int) S.ba.length = true := decide_eq_true (by omega)
  rw [hh] at HS
  have HA := hA A hw
  have HL : Hid (∀ V k, KyOk k → Below A.heap.size A V → (Instr.lookup 81 (.map (some K.m)) (kyV k) false).run Try.prog V = .ok (.agg (CA (S.cv k))) V) := fun V k hk hb => (hB.ce.keep hb).look hk (h.ok.cz k) false
  have HC : Hid (∀ V, Below A.heap.size A V → V.cell? ⟨K.b, 5, none⟩ = some (.map (some K.m))) := fun V hb => (hB.cells V hb).2.2.2.2.2
  have y0 : A.cell? ⟨w.heap.size, 0, none⟩ = some (.int .i64 pt.1) := hX.at rfl
  have y1 : A.cell? ⟨w.heap.size, 1, none⟩ = some (.int .i64 pt.2) := hX.at rfl
  clear h hB hh hA hX
  obtain ⟨c, hc⟩ : ∃ c : Nat, (min mo (P.length : Int)).toNat = c := ⟨_, rfl⟩
  have hcm : min mo (P.length : Int) = (c : Int) := by omega
  have hcP : c ≤ P.length := by omega
  rw [hc]
  clear hc
  obtain ⟨b, m, gf, cf, gb, cb, vr⟩ := K
  obtain ⟨p0, p1⟩ := pt
  try dsimp only at *
  generalize hnP : P.length = n at *
  go_enter Try.func46, Try.ntmps46
  go_upto_region 4 with (first
    | (go_at_call 22; refine HS.mono ?_; rintro e A ⟨rfl, rfl⟩)
    | (go_at_call 57; refine HA.mono ?_; rintro e W1 ⟨v1, rfl, hO1, b1⟩))
  obtain ⟨q1, c1, e1⟩ := hO1.form
  rw [hnP] at e1
  subst e1
  have HO1 : Hid (EO E2 24 W1 w.heap.size (.slice q1 n c1) P) := hO1
  have hcm' : Hid (min mo (n : Int) = (c : Int)) := hcm
  clear HA HS hE y0 y1 hO1
  go_upto_region 5 with (at_make; refine mk_e (E := EE) rfl zEnt rfl Try.underlying46 infoEntB rfl (c := c) rfl rfl (by first | rfl | exact hcm) (by omega) (by omega) ?_; intro W2 hB2 b2)
  clear hcm
  have hR0 : Rw EE 63 W2 W1.heap.size c (mixE (entL S (i : Int) P c) c 0) := by
    have h1 : mixE (entL S (i : Int) P c) c 0 = List.replicate c zEnt := by unfold mixE; simp
    rw [h1]
    exact ⟨by rw [List.length_replicate]; exact Nat.le_refl _, by unfold maxLen; omega, _, hB2, by simp [EE.fl_len], by simp only []; rw [List.length_replicate]; exact List.take_of_length_le (by rw [EE.fl_len, List.length_replicate]; exact Nat.le_refl _)⟩
  have hA2 := ab_trans b1 b2
  have hO2 := HO1.out.keep b2
  have HG1 : Hid (A.heap.size ≤ W1.heap.size) := b1.size
  have HLe : Hid ((entL S (i : Int) P c).length = c) := entL_len (by omega)
  have hgL : Hid (∀ k p, k < c → P[k]? = some p → (entL S (i : Int) P c)[k]? = some (p, S.cv ((i : Int), p))) := fun k p h1 h2 => entL_at h1 h2
  obtain ⟨L, hLL⟩ : ∃ L, entL S (i : Int) P c = L := ⟨_, rfl⟩
  rw [hLL] at hR0 HLe hgL
  have HLL : Hid (entL S (i : Int) P c = L) := hLL
  clear hLL
  generalize W1.heap.size = g at *
  clear hB2 b2 HO1
  go_wp2_with fail
  go_loopw [32] (fun z wr => ∃ k : Nat, k ≤ c ∧ z = .int .i64 (k : Int) ∧ Rw EE 63 wr g c (mixE L c k) ∧ EO E2 24 wr w.heap.size (.slice q1 n c1) P ∧ Below A.heap.size A wr) (fun z _ => c - (intOf z).toNat)
  case atStart => exact ⟨0, by omega, rfl, hR0, hO2, hA2⟩
  case round =>
    clear hR0 hO2 hA2
    obtain ⟨k, hkc, rfl, hR, hO, hA⟩ := hrel
    by_cases e : k = c
    · subst e
      have HR : Hid (EO EE 63 wr w.heap.size (.slice (some ⟨g, 0, none⟩) k k) L) := by
        have h1 : mixE L k k = L := by unfold mixE; rw [List.take_of_length_le (by have := HLe.out; omega), Nat.sub_self]; simp
        rw [h1] at hR
        have h2 := hR.eo (B := w.heap.size) (Nat.le_trans hw.size HG1.out) (i := k) (by have := HLe.out; omega)
        rw [List.take_of_length_le (by have := HLe.out; omega)] at h2
        exact h2
      go_wp2_with fail
      go_ret
      exact ⟨_, rfl, by rw [HLL.out]; exact HR.out, ab_trans hw hA⟩
    · obtain ⟨p, hp⟩ : ∃ p, P[k]? = some p := ⟨P[k]'(by omega), List.getElem?_eq_getElem (by omega)⟩
      have hkn : (k : Int) < (n : Int) := by omega
      have hki : (k : Int) < (c : Int) := by omega
      have HX : Hid (L[k]? = some (p, S.cv ((i : Int), p))) := hgL.out k p (by omega) hp
      have hkp := hk p (List.mem_of_getElem? hp)
      obtain ⟨qz, capz, gz, offz, ez, -, -, hpz, hcz⟩ := hO.er.at
      rw [hnP] at ez
      injection ez with ez1 ez2 ez3
      subst ez1
      subst ez3
      clear ez2
      rw [hnP] at hpz
      obtain ⟨rfl, hgz⟩ := hpz (by omega)
      have z0 := hcz k p hp 0 _ rfl
      have z1 := hcz k p hp 1 _ rfl
      rw [Nat.add_zero, show E2.k = 2 from rfl] at z0
      rw [show E2.k = 2 from rfl] at z1
      clear hcz hpz hp
      obtain ⟨pa, pb⟩ := p
      try dsimp only at z0 z1
      obtain ⟨A2, hE2, hX2, hw2⟩ := blk1 wr #[.int .i64 pa, .int .i64 pb] 24
      go_upto_region 9 with fail
      have hR2 := hR.keep hw2
      have hO2 := hO.keep hw2
      have hA2 := ab_trans hA hw2
      have hcv : ∀ V, Below A2.heap.size A2 V → (Instr.lookup 81 (.map (some m)) (.agg #[.int .i64 (i : Int), .int .i64 pa, .int .i64 pb]) false).run Try.prog V = .ok (.agg (CA (S.cv ((i : Int), pa, pb)))) V := fun V hb => HL.out V ((i : Int), pa, pb) hkp (ab_trans hA2 hb)
      have HC2 : Hid (∀ V, Below A2.heap.size A2 V → V.cell? ⟨b, 5, none⟩ = some (.map (some m))) := fun V hb => HC.out V (ab_trans hA2 hb)
      have HX2 : Hid (∀ V, Below A2.heap.size A2 V → V.cell? ⟨wr.heap.size, 0, none⟩ = some (.int .i64 pa) ∧ V.cell? ⟨wr.heap.size, 1, none⟩ = some (.int .i64 pb)) := fun V hb => ⟨(hX2.keep hb).at rfl, (hX2.keep hb).at rfl⟩
      generalize S.cv ((i : Int), pa, pb) = cc at *
      clear hE2 z0 z1 hR hO hA hX2 hw2
      refine region_L 13 (S := fun w' => Below A2.heap.size A2 w') (by kernel_rfl) (ab_drew (Below.refl _ _)) (fun hHeld => ?_)
      refine takeP (i := 0) (some 39) (by rfl) rfl rfl (by kernel_rfl) (by kernel_rfl) (by kernel_rfl) (fun _ _ _ h => h) (by rfl) (fun w => by go_simp; try rfl) hHeld ?_
      go_frame
      refine takeP (i := 1) (some 40) (by rfl) rfl rfl (by kernel_rfl) (by kernel_rfl) (by kernel_rfl) (fun _ _ _ h => h) (by rfl) (fun w => by go_simp; try rfl) hHeld ?_
      go_frame
      refine takeL (i := 2) [13] (some 41) (by rfl) rfl rfl (by kernel_rfl) (by kernel_rfl) (by kernel_rfl) (by kernel_rfl) (fun _ _ _ h => h) (by rfl) (fun w hSw => by (try dsimp only at hSw); (obtain ⟨q0, q1⟩ := HX2.out _ hSw; go_simp; try rfl)) hHeld ?_
      go_frame
      refine takeP (i := 3) (some 42) (by rfl) rfl rfl (by kernel_rfl) (by kernel_rfl) (by kernel_rfl) (fun _ _ _ h => h) (by rfl) (fun w => by go_simp; try rfl) hHeld ?_
      go_frame
      refine takeP (i := 4) (some 43) (by rfl) rfl rfl (by kernel_rfl) (by kernel_rfl) (by kernel_rfl) (fun _ _ _ h => h) (by rfl) (fun w => by go_simp; try rfl) hHeld ?_
      go_frame
      refine takeP (i := 5) (some 44) (by rfl) rfl rfl (by kernel_rfl) (by kernel_rfl) (by kernel_rfl) (fun _ _ _ h => h) (by rfl) (fun w => by go_simp; try rfl) hHeld ?_
      go_frame
      refine takeL (i := 6) [13] (some 45) (by rfl) rfl rfl (by kernel_rfl) (by kernel_rfl) (by kernel_rfl) (by kernel_rfl) (fun _ _ _ h => h) (by rfl) (fun w hSw => by (try dsimp only at hSw); (have q5 := HC2.out _ hSw; go_simp; try rfl)) hHeld ?_
      go_frame
      refine takeP (i := 7) (some 46) (by rfl) rfl rfl (by kernel_rfl) (by kernel_rfl) (by kernel_rfl) (fun _ _ _ h => h) (by rfl) (fun w => by go_simp; try rfl) hHeld ?_
      go_frame
      refine takeL (i := 8) [13] (some 47) (by rfl) rfl rfl (by kernel_rfl) (by kernel_rfl) (by kernel_rfl) (by kernel_rfl) (fun _ _ _ h => h) (by rfl) (fun w hSw => by (try dsimp only at hSw); (obtain ⟨q0, q1⟩ := HX2.out _ hSw; go_simp; try rfl)) hHeld ?_
      go_frame
      refine takeP (i := 9) (some 48) (by rfl) rfl rfl (by kernel_rfl) (by kernel_rfl) (by kernel_rfl) (fun _ _ _ h => h) (by rfl) (fun w => by exact bd_run rfl (built_id (i : Int) pa pb) (by simp only [List.map_toArray, List.map_cons, List.map_nil]; rfl) _) hHeld ?_
      go_frame
      refine takeL (i := 10) [13] (some 49) (by rfl) rfl rfl (by kernel_rfl) (by kernel_rfl) (by kernel_rfl) (by kernel_rfl) (fun _ _ _ h => h) (by rfl) (fun w hSw => by (try dsimp only at hSw); exact lkW rfl rfl rfl (hcv _ hSw)) hHeld ?_
      go_frame
      refine takeP (i := 11) (some 50) (by rfl) rfl rfl (by kernel_rfl) (by kernel_rfl) (by kernel_rfl) (fun _ _ _ h => h) (by rfl) (fun w => by exact bd_run rfl (built_entB pa pb cc) (by simp only [List.map_toArray, List.map_cons, List.map_nil]; rfl) _) hHeld ?_
      go_frame
      refine takeL (i := 12) [13] (some 51) (by rfl) rfl rfl (by kernel_rfl) (by kernel_rfl) (by kernel_rfl) (by kernel_rfl) (fun _ _ _ h => h) (by rfl) (fun w hSw => by (try dsimp only at hSw); go_simp; try rfl) hHeld ?_
      go_frame
      have hR3 := hR2.keep hHeld
      have hlt : k < (mixE L c k).length := by rw [mixE_len HLe.out hkc]; omega
      refine anyL_ready (rs := [13]) (by kernel_rfl) (by simp) (AllL.last rfl (by kernel_rfl) (fun K hK => ?_))
      rw [if_pos (by rfl)]
      refine stEW (E := EE) none rfl rfl hR3 hlt ((pa, pb), cc) (entA ((pa, pb), cc)) rfl rfl (by first | rfl | (simp; rfl)) rfl (sizeEnt _) fun W5 hR5 C5 => ?_
      rw [mixE_set HLe.out HX.out] at hR5
      have hO5 : EO E2 24 W5 w.heap.size (.slice (some ⟨gz, offz, none⟩) n c1) P := own_chgT (hO2.keep hHeld) C5 (fun e => absurd ((own_kindR (hO2.keep hHeld) e).uniq (rw_kind hR3)) (by decide))
      have hA5 := ab_chg (ab_trans hA2 hHeld) C5 HG1.out
      refine hK.out _ _ ?_
      clear hK K
      refine anyL_done (by kernel_rfl) ?_
      clear hR2 hR3 hO2 hA2 hHeld C5 hcv HC2 HX2
      go_wp2_with fail
      go_roundw
      case rel => exact ⟨k + 1, by omega, by go_num, hR5, hO5, hA5⟩
      case measure => simp [intOf]; omega
end Go.Proofs.Ytogbhiklhcibdaa
namespace Go.Proofs.Ytogbhiklhcibdaa
open Go.RowKit Go.Maps
set_option linter.unusedVariables false
set_option maxRecDepth 100000

theorem misB_snoc {S : Bsn} {l : List Kyy} {j : Nat} {o : Kyy} (ho : l[j]? = some o) : misB S (l.take (j + 1)) = misB S (l.take j) + if o ∈ S.ks then 0 else 1 := by
  unfold misB
  rw [List.take_add_one, ho, List.filter_append, List.length_append]
  congr 1
  simp only [Option.toList_some, List.filter_cons, List.filter_nil]
  by_cases e : o ∈ S.ks <;> simp [e]
theorem misB_le (S : Bsn) (l : List Kyy) : misB S l ≤ l.length := List.length_filter_le _ _
set_option maxHeartbeats 1000000 in
theorem bamiss_any {B : Nat} {K : Bkk} {S : Bsn} (v : Value) (l : List Kyy) (w : World) (h : Bq w B K S) (hv : ER E3k w v l) (hl : l.length ≤ 1000) (hk : ∀ k ∈ l, KyOk k) :
    Calls Try.prog 62 #[bptr K, v] w fun e w' => e = .returned (.int .i64 ((misB S l : Nat) : Int)) ∧ Below w.heap.size w w' := by
  have HL : Hid (∀ V k, KyOk k → Below w.heap.size w V → (Instr.lookup 81 (.map (some K.m)) (kyV k) true).run Try.prog V = .ok (.tuple #[.agg (CA (S.cv k)), .bool (decide (k ∈ S.ks))]) V) := fun V k hk hb => (h.ce.keep hb).look hk (h.ok.cz k) true
  have HC : Hid (∀ V, Below w.heap.size w V → V.cell? ⟨K.b, 5, none⟩ = some (.map (some K.m))) := fun V hb => (h.cells V hb).2.2.2.2.2
  clear h
  obtain ⟨q, cap, g, off, rfl, hc, hm, hp, hr⟩ := hv.at
  obtain ⟨b, m, gf, cf, gb, cb, vr⟩ := K
  try dsimp only at *
  generalize hn : l.length = n at *
  go_enter Try.func62, Try.ntmps62
  go_wp2_with fail
  go_loopw [5, 12] (fun x i wr => ∃ k : Nat, k ≤ n ∧ i = .int .i64 (k : Int) ∧ x = .int .i64 ((misB S (l.take k) : Nat) : Int) ∧ Below w.heap.size w wr) (fun _ i _ => n - (intOf i).toNat)
  case atStart => exact ⟨0, by omega, rfl, rfl, Below.refl _ _⟩
  case round =>
    obtain ⟨k, hk', rfl, rfl, hw⟩ := hrel
    by_cases c : k = n
    · subst c
      have HV : Hid (misB S (l.take k) = misB S l) := by show _ = _; rw [List.take_of_length_le (by omega)]
      rw [HV.out]
      clear hr
      go_wp2_with fail
      go_ret
      exact ⟨rfl, hw⟩
    · obtain ⟨o, ho⟩ : ∃ o, l[k]? = some o := ⟨l[k], List.getElem?_eq_getElem (by omega)⟩
      obtain ⟨rfl, hgk⟩ := hp (by omega)
      have z0 := keep_cell hw (hr k o ho 0 _ rfl) hgk
      have z1 := keep_cell hw (hr k o ho 1 _ rfl) hgk
      have z2 := keep_cell hw (hr k o ho 2 _ rfl) hgk
      rw [Nat.add_zero, show E3k.k = 3 from rfl] at z0
      rw [show E3k.k = 3 from rfl] at z1 z2
      have hki : (k : Int) < (n : Int) := by omega
      have hko := hk o (List.mem_of_getElem? ho)
      have hml := misB_le S (l.take k)
      rw [List.length_take] at hml
      have HM : Hid (misB S (l.take (k + 1)) = misB S (l.take k) + if o ∈ S.ks then 0 else 1) := misB_snoc ho
      generalize misB S (l.take k) = mi at *
      obtain ⟨oa, ob, oc⟩ := o
      try dsimp only at z0 z1 z2
      obtain ⟨A, hE, hX, hwA⟩ := blk1 wr #[.int .i64 oa, .int .i64 ob, .int .i64 oc] 40
      have hwW := ab_trans hw hwA
      clear hr ho
      go_upto_region 5 with fail
      have hcv : ∀ V, Below A.heap.size A V → (Instr.lookup 81 (.map (some m)) (.agg #[.int .i64 oa, .int .i64 ob, .int .i64 oc]) true).run Try.prog V = .ok (.tuple #[.agg (CA (S.cv (oa, ob, oc))), .bool (decide ((oa, ob, oc) ∈ S.ks))]) V := fun V hb => HL.out V (oa, ob, oc) hko (ab_trans hwW hb)
      generalize S.cv (oa, ob, oc) = cc at *
      clear hE z0 z1 z2
      refine wp_region_held_drew (S := fun w' => Below A.heap.size A w') (by kernel_rfl) (ab_drew (Below.refl _ _)) (fun hHeld => ?_)
      refine takeH (i := 0) (some 17) rfl rfl (by kernel_rfl) (by kernel_rfl) (by kernel_rfl) (fun _ _ _ h => h) (by rfl) (fun w hSw => by (try dsimp only at hSw); go_simp; try rfl) hHeld ?_
      go_frame
      refine takeH (i := 1) (some 18) rfl rfl (by kernel_rfl) (by kernel_rfl) (by kernel_rfl) (fun _ _ _ h => h) (by rfl) (fun w hSw => by (try dsimp only at hSw); go_simp; try rfl) hHeld ?_
      go_frame
      refine takeH (i := 2) (some 19) rfl rfl (by kernel_rfl) (by kernel_rfl) (by kernel_rfl) (fun _ _ _ h => h) (by rfl) (fun w hSw => by (try dsimp only at hSw); go_simp; try rfl) hHeld ?_
      go_frame
      refine takeH (i := 3) (some 20) rfl rfl (by kernel_rfl) (by kernel_rfl) (by kernel_rfl) (fun _ _ _ h => h) (by rfl) (fun w hSw => by (try dsimp only at hSw); (have q5 := HC.out _ (ab_trans hwW hSw); go_simp; try rfl)) hHeld ?_
      go_frame
      refine takeH (i := 4) (some 21) rfl rfl (by kernel_rfl) (by kernel_rfl) (by kernel_rfl) (fun _ _ _ h => h) (by rfl) (fun w hSw => by (try dsimp only at hSw); (obtain ⟨q0, q1, q2⟩ := ld_ky (k := (oa, ob, oc)) (hX.keep hSw); dsimp only at q0 q1 q2; go_simp; try rfl)) hHeld ?_
      go_frame
      refine takeH (i := 5) (some 22) rfl rfl (by kernel_rfl) (by kernel_rfl) (by kernel_rfl) (fun _ _ _ h => h) (by rfl) (fun w hSw => by (try dsimp only at hSw); exact lkW rfl rfl rfl (hcv _ hSw)) hHeld ?_
      go_frame
      refine takeH (i := 6) (some 16) rfl rfl (by kernel_rfl) (by kernel_rfl) (by kernel_rfl) (fun _ _ _ h => h) (by rfl) (fun w hSw => by (try dsimp only at hSw); go_simp; try rfl) hHeld ?_
      go_frame
      refine takeH (i := 7) (some 23) rfl rfl (by kernel_rfl) (by kernel_rfl) (by kernel_rfl) (fun _ _ _ h => h) (by rfl) (fun w hSw => by (try dsimp only at hSw); go_simp; try rfl) hHeld ?_
      go_frame
      refine takeH (i := 8) (some 24) rfl rfl (by kernel_rfl) (by kernel_rfl) (by kernel_rfl) (fun _ _ _ h => h) (by rfl) (fun w hSw => by (try dsimp only at hSw); go_simp; try rfl) hHeld ?_
      go_frame
      refine wpAnyH_ready (rs := [9]) (by kernel_rfl) (by simp) (AllReadyH.cons rfl (fun K hK => ?_) AllReadyH.nil)
      rw [if_pos (by rfl)]
      refine alW (some 8) rfl rfl (CA zc) (zero_cell _) fun W3 hX3 b3 => ?_
      have hs3 := hHeld.size
      refine hK.out _ _ (ab_trans hHeld b3) (fun hHeld => ?_)
      clear hK K
      go_frame
      refine wpAnyH_ready (rs := [10]) (by kernel_rfl) (by simp) (AllReadyH.cons rfl (fun K hK => ?_) AllReadyH.nil)
      rw [if_pos (by rfl)]
      refine stW none rfl rfl hX3 rfl rfl (info_cell _) (by rw [CA_size, CA_size]) (CA_one _) fun W4 hX4 C4 => ?_
      refine hK.out _ _ (ab_chg hHeld C4 hs3) (fun hHeld => ?_)
      clear hK K
      refine takeH (i := 11) (some 9) rfl rfl (by kernel_rfl) (by kernel_rfl) (by kernel_rfl) (fun _ _ _ h => h) (by rfl) (fun w hSw => by (try dsimp only at hSw); go_simp; try rfl) hHeld ?_
      go_frame
      refine wpAnyH_done (by kernel_rfl) ?_ _
      have hw4 := ab_trans hwW hHeld
      clear hcv hX3 hX4 C4 b3 hs3 hHeld
      by_cases e : (oa, ob, oc) ∈ S.ks
      · have HM' : Hid (misB S (l.take (k + 1)) = mi) := by show _ = _; rw [HM.out, if_pos e, Nat.add_zero]
        rw [decide_eq_true e]
        go_wp2_with fail
        go_roundw
        case rel => exact ⟨k + 1, by omega, by go_num, by rw [HM'.out], hw4⟩
        case measure => simp [intOf]; omega
      · have HM' : Hid (misB S (l.take (k + 1)) = mi + 1) := by show _ = _; rw [HM.out, if_neg e]
        rw [decide_eq_false e]
        go_wp2_with fail
        go_roundw
        case rel => exact ⟨k + 1, by omega, by go_num, by rw [HM'.out]; go_num, hw4⟩
        case measure => simp [intOf]; omega
/-- One cell of one of them stored. -/
theorem Rw.setc {α : Type} {E : En α} {e : TypeId} {W : World} {g cap i : Nat} {L : List α} {c c' : α} {j : Nat} {v : Value} (h : Rw E e W g cap L) (hi : L[i]? = some c) (hj : j < E.k) (hc : E.f c' = (E.f c).set j v) : Rw E e (W.setCell ⟨g, i * E.k + j, none⟩ v) g cap (L.set i c') := by
  obtain ⟨h1, h2, cur, hB, hs, ht⟩ := h
  obtain ⟨hlt, hge⟩ := List.getElem?_eq_some_iff.1 hi
  refine ⟨by rw [List.length_set]; exact h1, h2, _, hB.set _ _, by simpa using hs, ?_⟩
  have hA : (E.fl (L.take i)).length = i * E.k := by rw [E.fl_len, List.length_take, Nat.min_eq_left (by omega)]
  have e1 : E.fl L = E.fl (L.take i) ++ (E.f c ++ E.fl (L.drop (i + 1))) := by
    rw [← E.fl_cons, ← E.fl_append]
    congr 1
    conv => lhs; rw [← List.take_append_drop i L]
    rw [List.drop_eq_getElem_cons hlt, hge]
  rw [List.length_set, Array.toList_setIfInBounds, List.take_set, ht, e1, List.set_append_right _ _ (by omega), hA, Nat.add_sub_cancel_left, List.set_append_left _ _ (by rw [E.len]; exact hj), ← hc, ← E.fl_cons, ← E.fl_append]
  congr 1
  rw [List.set_eq_take_append_cons_drop, if_pos hlt]
theorem Rw.chgc {α : Type} {E : En α} {e : TypeId} {W : World} {g cap : Nat} {L : List α} (h : Rw E e W g cap L) (o : Nat) : W.frozen? ⟨g, o, none⟩ = false := by
  obtain ⟨h1, h2, cur, hB, hs, ht⟩ := h
  exact hB.frozen o
theorem bapunc_any {i g cap : Nat} {L : List Flw} {f : Flw} (t : Int) (w : World) (h : Rw E3f 101 w g cap L) (hi : L[i]? = some f) :
    Calls Try.prog 54 #[.pointer (some ⟨g, i * 3, none⟩), .int .i64 t] w fun e w' => e = .returned (.tuple #[]) ∧ Rw E3f 101 w' g cap (L.set i (pncF f t)) ∧ Chg g w w' := by
  have z1 : w.cell? ⟨g, i * 3 + 1, none⟩ = some (.int .i64 f.mt) := h.cell (i := 1) hi rfl
  have z2 : w.cell? ⟨g, i * 3 + 2, none⟩ = some (.bool f.md) := h.cell (i := 2) hi rfl
  have f1 := h.chgc (i * 3 + 1)
  have f2 := h.chgc (i * 3 + 2)
  have HY : Hid (Rw E3f 101 ((w.setCell ⟨g, i * 3 + 1, none⟩ (.int .i64 t)).setCell ⟨g, i * 3 + 2, none⟩ (.bool true)) g cap (L.set i { f with mt := t, md := true })) := by
    have hlt := (List.getElem?_eq_some_iff.1 hi).1
    have s1 := h.setc (c' := { f with mt := t }) (j := 1) (v := .int .i64 t) hi (by show 1 < 3; omega) rfl
    have s2 := s1.setc (i := i) (c := { f with mt := t }) (c' := { f with mt := t, md := true }) (j := 2) (v := .bool true) (List.getElem?_set_self hlt) (by show 2 < 3; omega) rfl
    rw [List.set_set] at s2
    exact s2
  have HC : Hid (Chg g w ((w.setCell ⟨g, i * 3 + 1, none⟩ (.int .i64 t)).setCell ⟨g, i * 3 + 2, none⟩ (.bool true))) := (chg_set _ _ _ _).trans (chg_set _ _ _ _)
  have HN : Hid (Rw E3f 101 w g cap (L.set i f)) := by show Rw _ _ _ _ _ _; rw [set_same hi]; exact h
  clear h hi
  obtain ⟨nx, mt, md⟩ := f
  try dsimp only at *
  cases md
  · have HF : Hid (pncF ⟨nx, mt, false⟩ t = ⟨nx, t, true⟩) := by show _ = _; unfold pncF; rw [if_pos (.inl rfl)]
    rw [HF.out]
    go_enter Try.func54, Try.ntmps54
    go_wp2_with fail
    exact bodyPost_end (results_none rfl _ _ _) rfl ⟨rfl, HY.out, HC.out⟩
  · by_cases c : mt < t
    · have HF : Hid (pncF ⟨nx, mt, true⟩ t = ⟨nx, t, true⟩) := by show _ = _; unfold pncF; rw [if_pos (.inr c)]
      rw [HF.out]
      go_enter Try.func54, Try.ntmps54
      go_wp2_with fail
      exact bodyPost_end (results_none rfl _ _ _) rfl ⟨rfl, HY.out, HC.out⟩
    · have HF : Hid (pncF ⟨nx, mt, true⟩ t = ⟨nx, mt, true⟩) := by show _ = _; unfold pncF; rw [if_neg (by rintro (e | e); exact Bool.noConfusion e; exact c e)]
      rw [HF.out]
      go_enter Try.func54, Try.ntmps54
      go_wp2_with fail
      exact bodyPost_end (results_none rfl _ _ _) rfl ⟨rfl, HN.out, Chg.refl _ _⟩
end Go.Proofs.Ytogbhiklhcibdaa
namespace Go.Proofs.Ytogbhiklhcibdaa
open Go.RowKit Go.Maps
set_option linter.unusedVariables false
set_option maxRecDepth 100000

theorem bs_two (c d : Nat → Int) (w : World) : (Instr.buildSlice 141 2 #[(0, .agg (CA c)), (1, .agg (CA d))]).run Try.prog w = .ok (.slice (some ⟨w.heap.size, 0, none⟩) 2 2) (w.alloc (.cells ((CA c).toList ++ (CA d).toList).toArray 61)) := by kernel_rfl
theorem bsTW {o : Oper} {a : Act} {w : World} {K : Act → World → Prop} {Q : Exit → Act → World → Prop} (d : Option Tmp) (hd : o.dst = d) {parts : Array (Nat × Operand)} (ho : o.op = .buildSlice 141 2 parts) (x y : Nat → Int)
    (hl : parts.map (fun (i, x) => (i, a.eval x)) = #[(0, .agg (CA x)), (1, .agg (CA y))])
    (h : ∀ W', CRow W' w.heap.size 0 [x, y] → w.heap.size < W'.heap.size → Below w.heap.size w W' → K (a.put d (.slice (some ⟨w.heap.size, 0, none⟩) 2 2)) W') : o.wp Try.prog a w K Q := by
  subst hd
  unfold Oper.wp execOp
  simp only [ho, Sem.run_bind, hl, bs_two, Result.andThen_ok]
  have hB := Blk.new w ((CA x).toList ++ (CA y).toList).toArray 61
  refine h _ ?_ hB.lt ((Below.refl _ _).alloc (Nat.le_refl _) _)
  intro j c hj i v hv
  have hlx : (CA x).toList.length = 74 := by rw [Array.length_toList, CA_size]
  rw [hB.cell]
  match j, hj with
  | 0, hj =>
    simp only [List.getElem?_cons_zero, Option.some.injEq] at hj
    subst hj
    have hi := (List.getElem?_eq_some_iff.1 hv).1
    simp only [List.getElem?_toArray]
    rw [show 0 + 0 * 74 + i = i by omega, List.getElem?_append_left hi]
    exact hv
  | 1, hj =>
    simp only [List.getElem?_cons_succ, List.getElem?_cons_zero, Option.some.injEq] at hj
    subst hj
    simp only [List.getElem?_toArray]
    rw [show 0 + 1 * 74 + i = 74 + i by omega, List.getElem?_append_right (by omega), hlx, Nat.add_sub_cancel_left]
    exact hv
  | j + 2, hj => simp at hj
/-- A store into a map, where its run is known. -/
theorem muW {P : Program} {o : Oper} {a : Act} {w : World} {K : Act → World → Prop} {Q : Exit → Act → World → Prop} (d : Option Tmp) (hd : o.dst = d) {t : TypeId} {m x y : Operand} (ho : o.op = .mapUpdate t m x y) {mv kv v : Value} (hm : a.eval m = mv) (hx : a.eval x = kv) (hy : a.eval y = v) {w' : World} (hr : (Instr.mapUpdate t mv kv v).run P w = .ok () w')
    (h : K (a.put d undef) w') : o.wp P a w K Q := by
  subst hd
  unfold Oper.wp execOp
  simp only [ho, hm, hx, hy, Sem.run_bind, hr, Result.andThen_ok, Sem.run_pure]
  exact h
theorem lenW {P : Program} {ρ : Operand → Value} {o : Oper} {x : Operand} {t : TypeId} (ho : o.op = .call { callee := .builtin .len, args := #[x], argTypes := #[t] }) {v v' : Value} (hx : ρ x = v) {w : World} (hr : ∀ ty, (Builtin.len_ #[t] ty #[v]).run P w = .ok v' w) : (execOp ρ o).run P w = .ok (.value v') w := by
  unfold execOp
  simp only [ho, resolve, invoke, builtin, Sem.run_bind, Sem.run_pure, Result.andThen_ok, List.map_toArray, List.map_cons, List.map_nil, hx, hr]
/-- The names of an operation that aren't ahead of the bases, in memory. -/
theorem baids_any {B : Nat} {K : Bkk} {S : Bsn} (o : Op5) (w : World) (h : Bq w B K S) (ho : Fit5 o) :
    Calls Try.prog 61 #[opV o, K.vr, .int .i64 S.sh] w fun e w' => ∃ v, e = .returned v ∧ EO E3k 40 w' w.heap.size v (idL o.t o.y S.sh S.res) ∧ Below w.heap.size w w' := by
  obtain ⟨q, cap, g, off, he, hc, hm, hp, hg, hr⟩ := h.re.is
  rw [he]
  refine (ids_any o.s o.k o.t o.y o.v q g off S.res.length cap S.res S.sh w rfl (by have := h.ok.r1; omega) hp hg hr ho.t.1 ho.t.2 ho.y.1 ho.y.2 (by have := h.ok.s1; omega) (fun j r hj => (h.ok.rr r (List.mem_of_getElem? hj)).2)).mono ?_
  rintro e w' ⟨v, rfl, hO, -, hb⟩
  exact ⟨v, rfl, eo_of (n := S.res.length) hO, hb⟩
set_option maxHeartbeats 4000000 in
theorem bapour_any {B : Nat} {K : Bkk} {S : Bsn} (src : Int) (o : Op5) (w : World) (h : Bq w B K S) (ho : Fit5 o) (hs : J64 src) :
    Calls Try.prog 55 #[bptr K, .int .i64 src, opV o] w fun e w' => e = .returned (.bool (rooB S o)) ∧ Bq w' B K (pouS S src o) ∧ Frm (fun k => k = K.m) w w' := by
  obtain ⟨A, hE, hX, hw⟩ := blk1 w (opA o) 35
  have hA := h.keep hw
  obtain ⟨qr, cr, er⟩ := hA.re.is.form
  have HC : Hid (∀ V, Below A.heap.size A V → V.cell? ⟨K.b, 0, none⟩ = some (.slice qr S.res.length cr) ∧ V.cell? ⟨K.b, 1, none⟩ = some (.int .i64 S.sh) ∧ V.cell? ⟨K.b, 2, none⟩ = some (.int .i64 S.mo) ∧ V.cell? ⟨K.b, 5, none⟩ = some (.map (some K.m))) := fun V hb => by
    obtain ⟨c0, c1, c2, c3, c4, c5⟩ := hA.cells V hb
    rw [er] at c0
    exact ⟨c0, c1, c2, c5⟩
  have HY : Hid (∀ V, Below A.heap.size A V → V.cell? ⟨w.heap.size, 0, none⟩ = some (.int .i64 o.s) ∧ V.cell? ⟨w.heap.size, 1, none⟩ = some (.int .i64 o.k) ∧ V.cell? ⟨w.heap.size, 2, none⟩ = some (.int .i64 o.t) ∧ V.cell? ⟨w.heap.size, 3, none⟩ = some (.int .i64 o.y) ∧ V.cell? ⟨w.heap.size, 4, none⟩ = some (.int .i64 o.v)) := fun V hb => ⟨(hX.keep hb).at rfl, (hX.keep hb).at rfl, (hX.keep hb).at rfl, (hX.keep hb).at rfl, (hX.keep hb).at rfl⟩
  have HB : Hid (Bq A B K S) := hA
  have HI : Hid (∀ V, Below A.heap.size A V → Calls Try.prog 61 #[opV o, .slice qr S.res.length cr, .int .i64 S.sh] V fun e w' => ∃ v, e = .returned v ∧ EO E3k 40 w' V.heap.size v (idL o.t o.y S.sh S.res) ∧ Below V.heap.size V w') := fun V hb => by
    have := baids_any o V (hA.keep hb) ho
    rw [er] at this
    exact this
  have hzA : w.heap.size < A.heap.size := hX.lt
  clear hX h hA er
  obtain ⟨b, m, gf, cf, gb, cb, vr⟩ := K
  generalize hnr : S.res.length = nr at *
  unfold opA at hE
  unfold opV opA at HI ⊢
  try dsimp only at *
  go_enter Try.func55, Try.ntmps55
  go_upto_region 1 with fail
  refine wp_region_held_drew (S := fun w' => Below A.heap.size A w') (by kernel_rfl) (ab_drew (Below.refl _ _)) (fun hHeld => ?_)
  clear hE
  refine takeH (i := 0) (some 11) rfl rfl (by kernel_rfl) (by kernel_rfl) (by kernel_rfl) (fun _ _ _ h => h) (by rfl) (fun w hSw => by (try dsimp only at hSw); (obtain ⟨q0, q1, q2, q3, q4⟩ := HY.out _ hSw; go_simp; try rfl)) hHeld ?_
  go_frame
  refine takeH (i := 1) (some 12) rfl rfl (by kernel_rfl) (by kernel_rfl) (by kernel_rfl) (fun _ _ _ h => h) (by rfl) (fun w hSw => by (try dsimp only at hSw); go_simp; try rfl) hHeld ?_
  go_frame
  refine takeH (i := 2) (some 13) rfl rfl (by kernel_rfl) (by kernel_rfl) (by kernel_rfl) (fun _ _ _ h => h) (by rfl) (fun w hSw => by (try dsimp only at hSw); go_simp; try rfl) hHeld ?_
  go_frame
  refine takeH (i := 3) (some 14) rfl rfl (by kernel_rfl) (by kernel_rfl) (by kernel_rfl) (fun _ _ _ h => h) (by rfl) (fun w hSw => by (try dsimp only at hSw); go_simp; try rfl) hHeld ?_
  go_frame
  refine takeH (i := 4) (some 15) rfl rfl (by kernel_rfl) (by kernel_rfl) (by kernel_rfl) (fun _ _ _ h => h) (by rfl) (fun w hSw => by (try dsimp only at hSw); (obtain ⟨q0, q1, q2, q5⟩ := HC.out _ hSw; go_simp; try rfl)) hHeld ?_
  go_frame
  refine takeH (i := 5) (some 16) rfl rfl (by kernel_rfl) (by kernel_rfl) (by kernel_rfl) (fun _ _ _ h => h) (by rfl) (fun w hSw => by (try dsimp only at hSw); go_simp; try rfl) hHeld ?_
  go_frame
  refine takeH (i := 6) (some 17) rfl rfl (by kernel_rfl) (by kernel_rfl) (by kernel_rfl) (fun _ _ _ h => h) (by rfl) (fun w hSw => by (try dsimp only at hSw); go_simp; try rfl) hHeld ?_
  go_frame
  refine takeH (i := 7) (some 18) rfl rfl (by kernel_rfl) (by kernel_rfl) (by kernel_rfl) (fun _ _ _ h => h) (by rfl) (fun w hSw => by (try dsimp only at hSw); go_simp; try rfl) hHeld ?_
  go_frame
  refine takeH (i := 8) (some 19) rfl rfl (by kernel_rfl) (by kernel_rfl) (by kernel_rfl) (fun _ _ _ h => h) (by rfl) (fun w hSw => by (try dsimp only at hSw); (obtain ⟨q0, q1, q2, q5⟩ := HC.out _ hSw; go_simp; try rfl)) hHeld ?_
  go_frame
  refine takeH (i := 10) (some 21) rfl rfl (by kernel_rfl) (by kernel_rfl) (by kernel_rfl) (fun _ _ _ h => h) (by rfl) (fun w hSw => by (try dsimp only at hSw); go_simp; try rfl) hHeld ?_
  go_frame
  refine takeH (i := 11) (some 22) rfl rfl (by kernel_rfl) (by kernel_rfl) (by kernel_rfl) (fun _ _ _ h => h) (by rfl) (fun w hSw => by (try dsimp only at hSw); go_simp; try rfl) hHeld ?_
  go_frame
  refine wpAnyH_ready (rs := [9]) (by kernel_rfl) (by simp) (AllReadyH.cons rfl (fun K hK => ?_) AllReadyH.nil)
  go_simp
  refine (HI.out _ hHeld).mono ?_
  rintro e V1 ⟨v1, rfl, hO1, b1⟩
  show K _ _
  have hs1 := hHeld.size
  refine hK.out _ _ (ab_trans hHeld b1) (fun hHeld => ?_)
  clear hK K b1
  have hpl : idsB S o = (idL o.t o.y S.sh S.res).filter (fun k => !pasB S.ba k) := rfl
  have hB1 := HB.out.keep hHeld
  have HD := badelete_any (idL o.t o.y S.sh S.res) v1 V1 hO1 hB1.pw (fun k hk => (ids_mem HB.out.ok ho hk).2) (by rw [idL_len, hnr]; have := HB.out.ok.r1; omega)
  rw [← hpl] at HD
  have hv1 : ∀ k, v1.ownBlock = some k → A.heap.size ≤ k := fun k hk => Nat.le_trans hs1 (World.ownsRow.lt hO1 k hk).1
  clear hB1 hO1 hpl
  refine wpAnyH_ready (rs := [12]) (by kernel_rfl) (by simp) (AllReadyH.cons rfl (fun K hK => ?_) AllReadyH.nil)
  go_simp
  refine HD.mono ?_
  rintro e V2 ⟨v2, rfl, hO2, hF2, -⟩
  show K _ _
  have hA2 : Below A.heap.size A V2 := hHeld.trans (hF2.below hHeld.size hv1)
  refine hK.out _ _ hA2 (fun hHeld => ?_)
  clear hK K hF2 HD
  refine takeH (i := 13) (some 7) rfl rfl (by kernel_rfl) (by kernel_rfl) (by kernel_rfl) (fun _ _ _ h => h) (by rfl) (fun w hSw => by (try dsimp only at hSw); go_simp; try rfl) hHeld ?_
  go_frame
  refine wpAnyH_done (by kernel_rfl) ?_ _
  clear hHeld HI hv1
  obtain ⟨q2, c2, e2⟩ := hO2.form
  have hni : (idsB S o).length ≤ 3 := by have := idsB_len S o; have := HB.out.ok.r1; omega
  have hik : ∀ k ∈ idsB S o, KyOk k := fun k hk => (idsB_mem HB.out.ok ho hk).1
  have hB2 := HB.out.keep hA2
  have HR : Hid (rooB S o = decide (((S.ks.length + misB S (idsB S o) : Nat) : Int) ≤ S.mo)) := rfl
  have hmi := misB_le S (idsB S o)
  have hkl : S.ks.length ≤ 1024 := by have := HB.out.ok.kl; have := HB.out.ok.m1; omega
  have HP : Hid (rooB S o = true → ∀ j, Okb (((idsB S o).take j).foldl (fun T k => addB T (oneF src o.s o.t o.v) k) S)) := fun hr j => okb_pouK HB.out.ok ho hs hr j
  have HQ : Hid (pouB S src o = (idsB S o).foldl (fun T k => addB T (oneF src o.s o.t o.v) k) S) := rfl
  have HLk : Hid (∀ k ∈ idsB S o, 0 ≤ k.1 ∧ k.1 < (S.ba.length : Int)) := fun k hk => (idsB_mem HB.out.ok ho hk).2
  generalize idsB S o = l at *
  have HM := fun (V : World) (hb : Below V2.heap.size V2 V) => bamiss_any v2 l V (hB2.keep hb) (hO2.keep hb).er (by omega) hik
  have hlen := fun (V : World) (hb : Below V2.heap.size V2 V) => (hB2.keep hb).ce.len
  have HO2 : Hid (EO E3k 40 V2 A.drew.heap.size v2 l) := hO2
  have HB2 : Hid (Bq V2 B ⟨b, m, gf, cf, gb, cb, vr⟩ S) := hB2
  rw [e2] at HM
  rw [e2]
  generalize hl : l.length = n at *
  clear hO2 hB2
  generalize hnk : S.ks.length = nk at *
  generalize misB S l = mi at *
  go_upto_region 2 with fail
  refine wp_region_held_drew (S := fun w' => Below V2.heap.size V2 w') (by kernel_rfl) (ab_drew (Below.refl _ _)) (fun hHeld => ?_)
  refine takeH (i := 0) (some 24) rfl rfl (by kernel_rfl) (by kernel_rfl) (by kernel_rfl) (fun _ _ _ h => h) (by rfl) (fun w hSw => by (try dsimp only at hSw); go_simp; try rfl) hHeld ?_
  go_frame
  refine takeH (i := 1) (some 25) rfl rfl (by kernel_rfl) (by kernel_rfl) (by kernel_rfl) (fun _ _ _ h => h) (by rfl) (fun w hSw => by (try dsimp only at hSw); go_simp; try rfl) hHeld ?_
  go_frame
  refine takeH (i := 2) (some 26) rfl rfl (by kernel_rfl) (by kernel_rfl) (by kernel_rfl) (fun _ _ _ h => h) (by rfl) (fun w hSw => by (try dsimp only at hSw); go_simp; try rfl) hHeld ?_
  go_frame
  refine takeH (i := 3) (some 27) rfl rfl (by kernel_rfl) (by kernel_rfl) (by kernel_rfl) (fun _ _ _ h => h) (by rfl) (fun w hSw => by (try dsimp only at hSw); (obtain ⟨q0, q1, q2, q5⟩ := HC.out _ (ab_trans hA2 hSw); go_simp; try rfl)) hHeld ?_
  go_frame
  refine takeH (i := 4) (some 28) rfl rfl (by kernel_rfl) (by kernel_rfl) (by kernel_rfl) (fun _ _ _ h => h) (by rfl) (fun w hSw => by (try dsimp only at hSw); exact lenW rfl rfl (hlen _ hSw)) hHeld ?_
  go_frame
  refine takeH (i := 5) (some 29) rfl rfl (by kernel_rfl) (by kernel_rfl) (by kernel_rfl) (fun _ _ _ h => h) (by rfl) (fun w hSw => by (try dsimp only at hSw); go_simp; try rfl) hHeld ?_
  go_frame
  refine takeH (i := 6) (some 30) rfl rfl (by kernel_rfl) (by kernel_rfl) (by kernel_rfl) (fun _ _ _ h => h) (by rfl) (fun w hSw => by (try dsimp only at hSw); go_simp; try rfl) hHeld ?_
  go_frame
  refine takeH (i := 9) (some 33) rfl rfl (by kernel_rfl) (by kernel_rfl) (by kernel_rfl) (fun _ _ _ h => h) (by rfl) (fun w hSw => by (try dsimp only at hSw); go_simp; try rfl) hHeld ?_
  go_frame
  refine takeH (i := 10) (some 34) rfl rfl (by kernel_rfl) (by kernel_rfl) (by kernel_rfl) (fun _ _ _ h => h) (by rfl) (fun w hSw => by (try dsimp only at hSw); go_simp; try rfl) hHeld ?_
  go_frame
  refine takeH (i := 11) (some 35) rfl rfl (by kernel_rfl) (by kernel_rfl) (by kernel_rfl) (fun _ _ _ h => h) (by rfl) (fun w hSw => by (try dsimp only at hSw); go_simp; try rfl) hHeld ?_
  go_frame
  refine takeH (i := 12) (some 36) rfl rfl (by kernel_rfl) (by kernel_rfl) (by kernel_rfl) (fun _ _ _ h => h) (by rfl) (fun w hSw => by (try dsimp only at hSw); (obtain ⟨q0, q1, q2, q5⟩ := HC.out _ (ab_trans hA2 hSw); go_simp; try rfl)) hHeld ?_
  go_frame
  refine wpAnyH_ready (rs := [7]) (by kernel_rfl) (by simp) (AllReadyH.cons rfl (fun K hK => ?_) AllReadyH.nil)
  go_simp
  refine (HM _ hHeld).mono ?_
  rintro e V3 ⟨rfl, b3⟩
  show K _ _
  refine hK.out _ _ (ab_trans hHeld b3) (fun hHeld => ?_)
  clear hK K b3 HM hlen
  have hadd : IntKind.i64.wrap ((nk : Int) + (mi : Int)) = (nk : Int) + (mi : Int) := by simp [IntKind.wrap, IntKind.signed, IntKind.bits] <;> omega
  refine takeH (i := 8) (some 32) rfl rfl (by kernel_rfl) (by kernel_rfl) (by kernel_rfl) (fun _ _ _ h => h) (by rfl) (fun w hSw => by (try dsimp only at hSw); go_simp; try rfl) hHeld ?_
  go_frame
  refine takeH (i := 13) (some 37) rfl rfl (by kernel_rfl) (by kernel_rfl) (by kernel_rfl) (fun _ _ _ h => h) (by rfl) (fun w hSw => by (try dsimp only at hSw); go_simp; try rfl) hHeld ?_
  go_frame
  clear hadd
  refine wpAnyH_done (by kernel_rfl) ?_ _
  have hB3 := HB2.out.keep hHeld
  have hO3 := HO2.out.keep hHeld
  have hA3 := ab_trans hA2 hHeld
  have hw3 := ab_trans hw hA3
  clear hHeld HB2 HO2
  by_cases c : S.mo < (nk : Int) + (mi : Int)
  · have HV : Hid (rooB S o = false) := by show _ = _; rw [HR.out]; exact decide_eq_false (by omega)
    go_wp2_with fail
    go_ret
    exact ⟨by rw [HV.out]; rfl, by rw [pouS_no HV.out]; exact hB3, frm_below hw3⟩
  · have HV : Hid (rooB S o = true) := by show _ = _; rw [HR.out]; exact decide_eq_true (by omega)
    have HP' : Hid (∀ j, Okb ((l.take j).foldl (fun T k => addB T (oneF src o.s o.t o.v) k) S)) := HP.out HV.out
    have h1 := one_any src o.s o.k o.t o.y o.v
    clear HP
    have HWf : Hid (Wf (oneF src o.s o.t o.v)) := wf_oneB _ _ _ _ hs ho.s ho.t ho.v
    have hvb : J64 o.v := ho.v
    obtain ⟨y0, y1, y2, y3, y4⟩ := HY.out _ hA3
    generalize oneF src o.s o.t o.v = one at *
    have hvl : v2 = .slice q2 n c2 := e2
    rw [hvl] at hO3
    have hO3e := hO3
    obtain ⟨q', cap', g', off', e', hc', hm', hp', -⟩ := hO3e.er
    have ecq : q2 = q' ∧ c2 = cap' := by
      rw [hl] at e'
      injection e' with e1 e2 e3
      exact ⟨e1, e3⟩
    obtain ⟨rfl, rfl⟩ := ecq
    rw [hl] at hp'
    clear e' hc' hO3e hvl e2
    go_upto_region 5 with (first
      | (go_at_call 63; refine (h1 _ hvb.1 hvb.2).mono ?_; rintro e V4 ⟨rfl, b4⟩)
      | (refine al_cell rfl rfl ?_; intro V5 e5 hX5 b5; clear e5)
      | (refine st_cell rfl rfl hX5 rfl rfl ?_; intro V6 hX6 C6))
    have hz5 := hX6.lt
    have b6 : Below V3.heap.size V3 V6 := ab_chg (ab_trans b4 b5) C6 b4.size
    have hB6 := hB3.keep b6
    have hO6 := hO3.keep b6
    have hw6 := ab_trans hw3 b6
    have hX6' : Blk V6 V4.heap.size (CA one) 61 := hX6
    have hA4 : A.heap.size ≤ V4.heap.size := Nat.le_trans hA3.size b4.size
    clear hX5 b4 b5 C6 b6 hB3 hO3 hX6 y0 y1 y2 y3 y4 h1
    generalize V4.heap.size = X at *
    go_wp2_with fail
    go_loopw [43] (fun i wr => ∃ k : Nat, k ≤ n ∧ i = .int .i64 (k : Int) ∧ Bq wr B ⟨b, m, gf, cf, gb, cb, vr⟩ ((l.take k).foldl (fun T k => addB T one k) S) ∧ EO E3k 40 wr A.drew.heap.size (.slice q2 n c2) l ∧ Blk wr X (CA one) 61 ∧ Frm (fun k => k = m) w wr) (fun i _ => n - (intOf i).toNat)
    case atStart => exact ⟨0, by omega, rfl, hB6, hO6, hX6', frm_below hw6⟩
    case round =>
      clear hB6 hO6 hX6' hw6
      obtain ⟨k, hk, rfl, hB, hO, hX, hF⟩ := hrel
      by_cases hkn : k = n
      · subst hkn
        rw [List.take_of_length_le (by omega), ← HQ.out] at hB
        go_wp2_with fail
        go_ret
        exact ⟨by rw [HV.out]; rfl, by rw [pouS_yes HV.out]; exact hB, hF⟩
      · have hlt : k < l.length := by omega
        obtain ⟨z, hz⟩ : ∃ z, l[k]? = some z := ⟨l[k], List.getElem?_eq_getElem hlt⟩
        have hki : (k : Int) < (n : Int) := by omega
        obtain ⟨qz, capz, gz, offz, ez, -, -, hpz, hcz⟩ := hO.er.at
        rw [hl] at ez
        injection ez with ez1 ez2 ez3
        subst ez1
        subst ez3
        clear ez2
        obtain ⟨rfl, hgz⟩ := hpz (by omega)
        have z0 := hcz k z hz 0 _ rfl
        have z1 := hcz k z hz 1 _ rfl
        have z2 := hcz k z hz 2 _ rfl
        rw [Nat.add_zero, show E3k.k = 3 from rfl] at z0
        rw [show E3k.k = 3 from rfl] at z1 z2
        have hzk := hik z (List.mem_of_getElem? hz)
        have HT : Hid ((l.take (k + 1)).foldl (fun T k => addB T one k) S = addB ((l.take k).foldl (fun T k => addB T one k) S) one z) := by
          show _ = _
          rw [List.take_add_one, hz]
          simp only [Option.toList_some, List.foldl_append, List.foldl_cons, List.foldl_nil]
        have hOK1 : Hid (Okb ((l.take (k + 1)).foldl (fun T k => addB T one k) S)) := HP'.out (k + 1)
        have hsame := fold_same one (l.take k) S
        generalize (l.take k).foldl (fun T k => addB T one k) S = T at *
        clear hcz hpz hz hp' hA4 HLk HC HY
        obtain ⟨za, zb, zd⟩ := z
        try dsimp only at z0 z1 z2
        obtain ⟨A2, hE2, hX2, hw2⟩ := blk1 wr #[.int .i64 za, .int .i64 zb, .int .i64 zd] 40
        go_upto_region 8 with fail
        have hBA := hB.keep hw2
        have hOA := hO.keep hw2
        have hXA := hX.keep hw2
        have hFA := hF.trans (frm_below hw2)
        have HL : Hid (∀ V, Below A2.heap.size A2 V → (Instr.lookup 81 (.map (some m)) (.agg #[.int .i64 za, .int .i64 zb, .int .i64 zd]) false).run Try.prog V = .ok (.agg (CA (T.cv (za, zb, zd)))) V) := fun V hb => (hBA.keep hb).ce.look (k := (za, zb, zd)) hzk (hBA.ok.cz _) false
        have HC : Hid (∀ V, Below A2.heap.size A2 V → V.cell? ⟨b, 5, none⟩ = some (.map (some m))) := fun V hb => ((hBA.keep hb).cells V (Below.refl _ _)).2.2.2.2.2
        have HWc : Hid (Wf (T.cv (za, zb, zd))) := hBA.ok.cw _
        have HBA : Hid (Bq A2 B ⟨b, m, gf, cf, gb, cb, vr⟩ T) := hBA
        have hmk := hBA.ce.noKind
        have HOA : Hid (EO E3k 40 A2 A.drew.heap.size (.slice (some ⟨gz, offz, none⟩) n c2) l) := hOA
        have HXA : Hid (Blk A2 X (CA one) 61) := hXA
        have HX2 : Hid (Blk A2 wr.heap.size #[.int .i64 za, .int .i64 zb, .int .i64 zd] 40) := hX2
        have HTl : Hid (T.ks.length ≤ 100000) := by have := hBA.ok.kl; have := hBA.ok.m1; show _ ≤ _; omega
        generalize hcv : T.cv (za, zb, zd) = cc at *
        have HCC : Hid (T.cv (za, zb, zd) = cc) := hcv
        clear hE2 z0 z1 z2 hB hO hX hF hBA hOA hXA hX2 hw2 hcv
        refine region_L 14 (S := fun w' => Below A2.heap.size A2 w') (by kernel_rfl) (ab_drew (Below.refl _ _)) (fun hHeld => ?_)
        refine takeP (i := 0) (some 47) (by rfl) rfl rfl (by kernel_rfl) (by kernel_rfl) (by kernel_rfl) (fun _ _ _ h => h) (by rfl) (fun w => by go_simp; try rfl) hHeld ?_
        go_frame
        refine takeP (i := 1) (some 48) (by rfl) rfl rfl (by kernel_rfl) (by kernel_rfl) (by kernel_rfl) (fun _ _ _ h => h) (by rfl) (fun w => by go_simp; try rfl) hHeld ?_
        go_frame
        refine takeP (i := 2) (some 49) (by rfl) rfl rfl (by kernel_rfl) (by kernel_rfl) (by kernel_rfl) (fun _ _ _ h => h) (by rfl) (fun w => by go_simp; try rfl) hHeld ?_
        go_frame
        refine takeL (i := 3) [14] (some 50) (by rfl) rfl rfl (by kernel_rfl) (by kernel_rfl) (by kernel_rfl) (by kernel_rfl) (fun _ _ _ h => h) (by rfl) (fun w hSw => by (try dsimp only at hSw); (have q5 := HC.out _ hSw; go_simp; try rfl)) hHeld ?_
        go_frame
        refine takeL (i := 4) [14] (some 51) (by rfl) rfl rfl (by kernel_rfl) (by kernel_rfl) (by kernel_rfl) (by kernel_rfl) (fun _ _ _ h => h) (by rfl) (fun w hSw => by (try dsimp only at hSw); (obtain ⟨q0, q1, q2⟩ := ld_ky (k := (za, zb, zd)) (HX2.out.keep hSw); dsimp only at q0 q1 q2; go_simp; try rfl)) hHeld ?_
        go_frame
        refine takeP (i := 5) (some 52) (by rfl) rfl rfl (by kernel_rfl) (by kernel_rfl) (by kernel_rfl) (fun _ _ _ h => h) (by rfl) (fun w => by go_simp; try rfl) hHeld ?_
        go_frame
        refine takeP (i := 6) (some 53) (by rfl) rfl rfl (by kernel_rfl) (by kernel_rfl) (by kernel_rfl) (fun _ _ _ h => h) (by rfl) (fun w => by go_simp; try rfl) hHeld ?_
        go_frame
        refine takeP (i := 7) (some 54) (by rfl) rfl rfl (by kernel_rfl) (by kernel_rfl) (by kernel_rfl) (fun _ _ _ h => h) (by rfl) (fun w => by go_simp; try rfl) hHeld ?_
        go_frame
        refine takeL (i := 8) [14] (some 55) (by rfl) rfl rfl (by kernel_rfl) (by kernel_rfl) (by kernel_rfl) (by kernel_rfl) (fun _ _ _ h => h) (by rfl) (fun w hSw => by (try dsimp only at hSw); (have q5 := HC.out _ hSw; go_simp; try rfl)) hHeld ?_
        go_frame
        refine takeL (i := 9) [14] (some 56) (by rfl) rfl rfl (by kernel_rfl) (by kernel_rfl) (by kernel_rfl) (by kernel_rfl) (fun _ _ _ h => h) (by rfl) (fun w hSw => by (try dsimp only at hSw); (obtain ⟨q0, q1, q2⟩ := ld_ky (k := (za, zb, zd)) (HX2.out.keep hSw); dsimp only at q0 q1 q2; go_simp; try rfl)) hHeld ?_
        go_frame
        refine takeL (i := 10) [14] (some 57) (by rfl) rfl rfl (by kernel_rfl) (by kernel_rfl) (by kernel_rfl) (by kernel_rfl) (fun _ _ _ h => h) (by rfl) (fun w hSw => by (try dsimp only at hSw); exact lkW rfl rfl rfl (HL.out _ hSw)) hHeld ?_
        go_frame
        refine takeL (i := 11) [14] (some 58) (by rfl) rfl rfl (by kernel_rfl) (by kernel_rfl) (by kernel_rfl) (by kernel_rfl) (fun _ _ _ h => h) (by rfl) (fun w hSw => by (try dsimp only at hSw); exact ld_oper rfl rfl (HXA.out.keep hSw)) hHeld ?_
        go_frame
        refine anyL_ready (rs := [12]) (by kernel_rfl) (by simp) (AllL.cons rfl (fun K hK => ?_) AllL.nil)
        rw [if_pos (by rfl)]
        refine bsTW (some 59) rfl rfl cc one (by simp only [List.map_toArray, List.map_cons, List.map_nil]; rfl) fun U1 hC1 hlt1 b1 => ?_
        have hs1' := hHeld.size
        refine hK.out _ _ (ab_trans hHeld b1) (fun hHeld => ?_)
        clear hK K
        go_frame
        refine anyL_ready (rs := [13]) (by kernel_rfl) (by simp) (AllL.cons rfl (fun K hK => ?_) AllL.nil)
        go_simp
        refine (join_any _ 0 2 2 [cc, one] U1 rfl (by omega) (fun c hc => by simp at hc; rcases hc with rfl | rfl; exact HWc.out; exact HWf.out) hC1 hlt1).mono ?_
        rintro e U2 ⟨rfl, b2⟩
        show K _ _
        refine hK.out _ _ (ab_trans hHeld b2) (fun hHeld => ?_)
        clear hK K hC1 hlt1 b1 b2
        obtain ⟨U3, hup, hC3, hg3⟩ := (HBA.out.keep hHeld).ce.put (k := (za, zb, zd)) hzk HTl.out (joinF [cc, one])
        refine anyL_ready (rs := [14]) (by kernel_rfl) (by simp) (AllL.last rfl (by kernel_rfl) (fun K hK => ?_))
        rw [if_pos (by rfl)]
        refine muW none rfl rfl rfl rfl rfl hup ?_
        refine hK.out _ _ ?_
        clear hK K hup
        refine anyL_done (by kernel_rfl) ?_
        have hBU := HBA.out.keep hHeld
        have hF3 : Frm (fun k => k = m) U2 U3 := frm_grown hg3 rfl
        have hB3 : Bq U3 B ⟨b, m, gf, cf, gb, cb, vr⟩ (addB T one (za, zb, zd)) := by
          have hok := hOK1.out
          rw [HT.out] at hok
          refine hBU.upd (hF3.mono fun k hk => .inr (.inr hk)) rfl rfl rfl rfl rfl (rw_at hBU.fe (hF3.other _ hBU.fe.lt hBU.nfm)) (rw_at hBU.be (hF3.other _ hBU.be.lt hBU.nbm)) ?_ hok
          rw [← HCC.out] at hC3
          exact hC3
        have hO3 : EO E3k 40 U3 A.drew.heap.size (.slice (some ⟨gz, offz, none⟩) n c2) l := own_at (HOA.out.keep hHeld) fun g hg => hF3.other g (World.ownsRow.lt (HOA.out.keep hHeld) g hg).2 (fun e => hBU.ce.noKind 40 (by rw [← show g = m from e]; exact own_kindR (HOA.out.keep hHeld) hg))
        have hX3 : Blk U3 X (CA one) 61 := (HXA.out.keep hHeld).frm hF3 (fun e => hBU.ce.noKind 61 (by rw [← show X = m from e]; exact (HXA.out.keep hHeld).kindR))
        have hFF := (hFA.trans (frm_below hHeld)).trans hF3
        rw [← HT.out] at hB3
        clear hBU hF3 hg3 hC3 HBA HOA HXA HX2 HL HC hHeld hFA
        go_wp2_with fail
        go_roundw
        case rel => exact ⟨k + 1, by omega, by go_num, hB3, hO3, hX3, hFF⟩
        case measure => simp [intOf]; omega
end Go.Proofs.Ytogbhiklhcibdaa
namespace Go.Proofs.Ytogbhiklhcibdaa
open Go.RowKit Go.Maps
set_option linter.unusedVariables false
set_option maxRecDepth 100000

def tkE (r : Bsn × Option Int) : Nat := match r.2 with | some _ => 7 | none => 0
def tkN (la : Int) (r : Bsn × Option Int) : Int := match r.2 with | some s => s | none => wrap64 (la + 1)
theorem pncB_at {S : Bsn} {i : Nat} {f : Flw} (t : Int) (h : S.fl[i]? = some f) : pncB S i t = { S with fl := S.fl.set i (pncF f t) } := by unfold pncB; rw [h]
theorem nxtB_at {S : Bsn} {i : Nat} {f : Flw} (n : Int) (h : S.fl[i]? = some f) : nxtB S i n = { S with fl := S.fl.set i { f with nx := n } } := by unfold nxtB; rw [h]
theorem pou_fl (S : Bsn) (src : Int) (o : Op5) : (pouB S src o).fl = S.fl := (fold_same _ _ _).2.2.2.1
theorem stp_mark {i : Nat} {S : Bsn} {o : Op5} (h : o.k = 2) : stpB i (S, none) o = (pncB S i o.t, none) := by unfold stpB; simp [h]
theorem stp_pour {i : Nat} {S : Bsn} {o : Op5} (h : o.k ≠ 2) (hr : rooB S o = true) : stpB i (S, none) o = (pouB S (i : Int) o, none) := by unfold stpB; simp [h, hr]
theorem stp_full {i : Nat} {S : Bsn} {o : Op5} (h : o.k ≠ 2) (hr : rooB S o = false) : stpB i (S, none) o = (S, some o.s) := by unfold stpB; simp [h, hr]
theorem tak_snoc {i : Nat} {S T : Bsn} {ops : List Op5} {k : Nat} {o : Op5} (h : takB S i (ops.take k) = (T, none)) (ho : ops[k]? = some o) : takB S i (ops.take (k + 1)) = stpB i (T, none) o := by
  unfold takB at *
  rw [List.take_add_one, ho]
  simp only [Option.toList_some, List.foldl_append, List.foldl_cons, List.foldl_nil, h]
theorem tak_full {i : Nat} {S T : Bsn} {ops : List Op5} {k : Nat} {s : Int} (h : takB S i (ops.take (k + 1)) = (T, some s)) : takB S i ops = (T, some s) := by
  unfold takB at *
  rw [← List.take_append_drop (k + 1) ops, List.foldl_append, h]
  exact stp_stuck i s _ _
theorem src_J {S : Bsn} (h : Okb S) {i : Nat} (hi : i < S.fl.length) : J64 (i : Int) := by have := h.f1; unfold J64; omega
/-- The next number stored. -/
theorem Bq.setnx {w W : World} {B : Nat} {K : Bkk} {T : Bsn} {i : Nat} {f : Flw} (hB : Bq W B K T) (hF : Frm (bkB K) w W) (hfi : T.fl[i]? = some f) {nx : Int} (hnJ : J64 nx) :
    Bq (W.setCell ⟨K.gf, i * 3, none⟩ (.int .i64 nx)) B K (nxtB T i nx) ∧ Frm (bkB K) w (W.setCell ⟨K.gf, i * 3, none⟩ (.int .i64 nx)) := by
  have hC : Chg K.gf W (W.setCell ⟨K.gf, i * 3, none⟩ (.int .i64 nx)) := chg_set _ _ _ _
  have hFC : Frm (bkB K) W (W.setCell ⟨K.gf, i * 3, none⟩ (.int .i64 nx)) := frm_chg hC (.inl rfl)
  have hok := okb_nxt hB.ok (i := i) hnJ
  have hs := hB.fe.setc (c' := { f with nx := nx }) (j := 0) (v := .int .i64 nx) hfi (by show 0 < 3; omega) rfl
  rw [Nat.add_zero] at hs
  rw [nxtB_at nx hfi] at hok ⊢
  exact ⟨hB.upd hFC rfl rfl rfl (by simp) rfl hs (rw_at hB.be (hC.other _ hB.nfb.symm)) (hB.ce.at (hC.other _ hB.nfm.symm)) hok, hF.trans hFC⟩
set_option maxHeartbeats 4000000 in
theorem batake_any {B : Nat} {K : Bkk} {S : Bsn} (i : Nat) (la : Int) (vo : Value) (ops : List Op5) (w : World) (h : Bq w B K S) (hi : i < S.fl.length) (hO : ∀ V, Frm (bkB K) w V → ER E5 V vo ops) (hf : ∀ o ∈ ops, Fit5 o) (hla : J64 la) :
    Calls Try.prog 42 #[bptr K, .int .i64 (i : Int), .int .i64 la, vo] w fun e w' => e = .returned (errV (tkE (takB S i ops))) ∧ Bq w' B K (nxtB (takB S i ops).1 i (tkN la (takB S i ops))) ∧ Frm (bkB K) w w' := by
  obtain ⟨-, -, -, c3, -, -⟩ := h.cells w (Below.refl _ _)
  obtain ⟨q, cap, hvo⟩ := (hO w (Frm.refl _ _)).form
  have HO : Hid (∀ V, Frm (bkB K) w V → ER E5 V (.slice q ops.length cap) ops) := fun V hb => by rw [← hvo]; exact hO V hb
  rw [hvo]
  clear hvo hO
  have HB : Hid (Bq w B K S) := h
  have HI : Hid (J64 (i : Int)) := src_J h.ok hi
  have hli : (i : Int) < (S.fl.length : Int) := by omega
  clear h
  generalize hnf : S.fl.length = nf at *
  generalize hn : ops.length = n at *
  have hcap : Hid (n ≤ cap ∧ cap ≤ 9223372036854775807) := by
    obtain ⟨q', cap', g, off, e, h1, h2, -⟩ := HO.out w (Frm.refl _ _)
    injection e with _ e1 e2
    subst e2
    rw [hn] at h1
    exact ⟨h1, h2⟩
  have hn63 : (n : Int) ≤ 9223372036854775807 := by have := hcap.out; omega
  obtain ⟨b, m, gf, cf, gb, cb, vr⟩ := K
  try dsimp only at *
  have HF0 : Hid (Frm (bkB ⟨b, m, gf, cf, gb, cb, vr⟩) w w) := Frm.refl _ _
  go_enter Try.func42, Try.ntmps42
  go_wp2_with fail
  go_step3
  go_wp2_with fail
  go_step3
  go_wp2_with fail
  have HNX : Hid (∃ x, wrap64 (la + 1) = x ∧ J64 x) := ⟨_, rfl, by unfold J64 wrap64; omega⟩
  obtain ⟨nx, hnx, hnJ⟩ := HNX.out
  rw [hnx]
  have HX : Hid (wrap64 (la + 1) = nx) := hnx
  clear HNX hnx hla
  go_loopw [10, 11, 24] (fun x y z wr => ∃ (k : Nat) (T : Bsn), k ≤ n ∧ z = .int .i64 (k : Int) ∧ x = .int .i64 nx ∧ y = .nilIface ∧ takB S i (ops.take k) = (T, none) ∧ T.fl.length = nf ∧ Bq wr B ⟨b, m, gf, cf, gb, cb, vr⟩ T ∧ Frm (bkB ⟨b, m, gf, cf, gb, cb, vr⟩) w wr) (fun _ _ z _ => n - (intOf z).toNat)
  case atStart => exact ⟨0, S, by omega, rfl, rfl, rfl, rfl, hnf, HB.out, HF0.out⟩
  case round =>
    obtain ⟨k, T, hk, rfl, rfl, rfl, hT, hTl, hB, hF⟩ := hrel
    clear c3 HB HF0
    have HT : Hid (takB S i (ops.take k) = (T, none)) := hT
    clear hT
    obtain ⟨f, hfi⟩ : ∃ f, T.fl[i]? = some f := ⟨T.fl[i]'(by omega), List.getElem?_eq_getElem (by omega)⟩
    by_cases hkn : k = n
    · subst hkn
      have HE : Hid (takB S i ops = (T, none)) := by have := HT.out; rw [List.take_of_length_le (by omega)] at this; exact this
      have fz : wr.frozen? ⟨gf, i * 3, none⟩ = false := hB.fe.chgc (i * 3)
      have cz : wr.cell? ⟨gf, i * 3, none⟩ = some (.int .i64 f.nx) := hB.fe.cell (i := 0) hfi rfl
      have HQ : Hid (Bq (wr.setCell ⟨gf, i * 3, none⟩ (.int .i64 nx)) B ⟨b, m, gf, cf, gb, cb, vr⟩ (nxtB T i nx) ∧ Frm (bkB ⟨b, m, gf, cf, gb, cb, vr⟩) w (wr.setCell ⟨gf, i * 3, none⟩ (.int .i64 nx))) := by
        exact hB.setnx hF hfi hnJ
      clear hB hF hfi
      go_wp2_with fail
      try rw [Exit.noGoto_ret]
      go_ret
      exact ⟨by rw [HE.out]; rfl, by rw [HE.out]; show Bq _ _ _ (nxtB T i (wrap64 (la + 1))); rw [HX.out]; exact HQ.out.1, HQ.out.2⟩
    · have hlt : k < ops.length := by omega
      obtain ⟨o, ho⟩ : ∃ o, ops[k]? = some o := ⟨ops[k], List.getElem?_eq_getElem hlt⟩
      have hki : (k : Int) < (n : Int) := by omega
      have HS : Hid (takB S i (ops.take (k + 1)) = stpB i (T, none) o) := tak_snoc HT.out ho
      have hfo : Fit5 o := hf o (List.mem_of_getElem? ho)
      obtain ⟨q', cap', g, off, eq', -, -, hp, hr⟩ := (HO.out wr hF).at
      rw [hn] at eq'
      injection eq' with e1 _ e3
      subst e1
      subst e3
      rw [hn] at hp
      obtain ⟨rfl, hgk⟩ := hp (by omega)
      have z0 := hr k o ho 0 _ rfl
      have z1 := hr k o ho 1 _ rfl
      have z2 := hr k o ho 2 _ rfl
      have z3 := hr k o ho 3 _ rfl
      have z4 := hr k o ho 4 _ rfl
      rw [Nat.add_zero, show E5.k = 5 from rfl] at z0
      rw [show E5.k = 5 from rfl] at z1 z2 z3 z4
      obtain ⟨A, hE, hX, hw⟩ := blk1 wr (opA o) 35
      have y0 : A.cell? ⟨wr.heap.size, 0, none⟩ = some (.int .i64 o.s) := hX.at rfl
      have y1 : A.cell? ⟨wr.heap.size, 1, none⟩ = some (.int .i64 o.k) := hX.at rfl
      have y2 : A.cell? ⟨wr.heap.size, 2, none⟩ = some (.int .i64 o.t) := hX.at rfl
      have y3 : A.cell? ⟨wr.heap.size, 3, none⟩ = some (.int .i64 o.y) := hX.at rfl
      have y4 : A.cell? ⟨wr.heap.size, 4, none⟩ = some (.int .i64 o.v) := hX.at rfl
      have hBA := hB.keep hw
      have hFA := hF.trans (frm_below hw)
      unfold opA at hE
      have HML : Hid (m < wr.heap.size) := hB.ce.lt
      clear hr hp ho HT hlt hF hB
      by_cases hm : o.k = 2
      · have HP := bapunc_any o.t A hBA.fe hfi
        have HS' : Hid (takB S i (ops.take (k + 1)) = (pncB T i o.t, none)) := by show _ = _; rw [HS.out, stp_mark hm]
        have hk2 : (o.k == 2) = true := by simp [hm]
        have HL : Hid ((pncB T i o.t).fl.length = nf) := by show _ = _; rw [pncB_at _ hfi]; simp [hTl]
        clear hm HS
        go_wp2_with (go_at_call 54; refine HP.mono ?_; rintro e W2 ⟨rfl, hR2, C2⟩)
        have hFC : Frm (bkB ⟨b, m, gf, cf, gb, cb, vr⟩) A W2 := frm_chg C2 (.inl rfl)
        have hok := okb_pnc hBA.ok (i := i) hfo.t
        have hB2 : Bq W2 B ⟨b, m, gf, cf, gb, cb, vr⟩ (pncB T i o.t) := by
          rw [pncB_at _ hfi] at hok ⊢
          exact hBA.upd hFC rfl rfl rfl (by simp) rfl hR2 (rw_at hBA.be (C2.other _ hBA.nfb.symm)) (hBA.ce.at (C2.other _ hBA.nfm.symm)) hok
        go_roundw
        case rel => exact ⟨k + 1, _, by omega, by go_num, rfl, rfl, HS'.out, HL.out, hB2, hFA.trans hFC⟩
        case measure => simp [intOf]; omega
      · have HP := bapour_any (i : Int) o A hBA hfo HI.out
        have hk2 : (o.k == 2) = false := by simp [hm]
        unfold opV opA at HP
        cases hro : rooB T o
        · have HS' : Hid (takB S i ops = (T, some o.s)) := by
            have := HS.out
            rw [stp_full hm hro] at this
            exact tak_full this
          rw [hro] at HP
          have HPS : Hid (pouS T (i : Int) o = T) := pouS_no hro
          clear HS hm hro
          have hml : wr.heap.size ≠ m := by have := hBA.ce.lt; have hz := HML.out; omega
          go_upto_region 11 with (go_at_call 55; refine HP.mono ?_; rintro e W2 ⟨rfl, hB2, hF2⟩; have g0 : W2.cell? ⟨wr.heap.size, 0, none⟩ = some (.int .i64 o.s) := (hX.frm hF2 hml).at rfl)
          rw [HPS.out] at hB2
          have hFF := hFA.trans (hF2.mono fun k hk => .inr (.inr hk))
          have fz : W2.frozen? ⟨gf, i * 3, none⟩ = false := hB2.fe.chgc (i * 3)
          have cz : W2.cell? ⟨gf, i * 3, none⟩ = some (.int .i64 f.nx) := hB2.fe.cell (i := 0) hfi rfl
          have HQ : Hid (Bq (W2.setCell ⟨gf, i * 3, none⟩ (.int .i64 o.s)) B ⟨b, m, gf, cf, gb, cb, vr⟩ (nxtB T i o.s) ∧ Frm (bkB ⟨b, m, gf, cf, gb, cb, vr⟩) w (W2.setCell ⟨gf, i * 3, none⟩ (.int .i64 o.s))) := hB2.setnx hFF hfi hfo.s
          clear hB2 hFF hF2 hfi hBA hFA hX hE
          go_wp2_with fail
          try rw [Exit.noGoto_ret]
          go_ret
          exact ⟨by rw [HS'.out]; rfl, by rw [HS'.out]; exact HQ.out.1, HQ.out.2⟩
        · have HS' : Hid (takB S i (ops.take (k + 1)) = (pouB T (i : Int) o, none)) := by show _ = _; rw [HS.out, stp_pour hm hro]
          rw [hro] at HP
          have HPS : Hid (pouS T (i : Int) o = pouB T (i : Int) o) := pouS_yes hro
          have HL : Hid ((pouB T (i : Int) o).fl.length = nf) := by show _ = _; rw [pou_fl]; exact hTl
          clear HS hm hro
          go_wp2_with (go_at_call 55; refine HP.mono ?_; rintro e W2 ⟨rfl, hB2, hF2⟩)
          rw [HPS.out] at hB2
          have hFF := hFA.trans (hF2.mono fun k hk => .inr (.inr hk))
          go_roundw
          case rel => exact ⟨k + 1, _, by omega, by go_num, rfl, rfl, HS'.out, HL.out, hB2, hFF⟩
          case measure => simp [intOf]; omega
end Go.Proofs.Ytogbhiklhcibdaa
namespace Go.Proofs.Ytogbhiklhcibdaa
open Go.RowKit Go.Maps
set_option linter.unusedVariables false
set_option maxRecDepth 100000

/-- What an operation must be behind others. -/
structure InK (ops : List Op5) (fr la : Int) (k : Nat) (o : Op5) : Prop where
  kd : o.k = 1 ∨ o.k = 2
  lo : fr ≤ o.s
  hi : o.s ≤ la
  up : ∀ p, 0 < k → ops[k - 1]? = some p → p.s < o.s
theorem info_snoc {ops : List Op5} {fr la : Int} {k : Nat} {o : Op5} (h : infO (ops.take k) fr la) (ho : ops[k]? = some o) (hk : InK ops fr la k o) : infO (ops.take (k + 1)) fr la := by
  rw [List.take_add_one, ho]
  refine ⟨fun x hx => ?_, ?_⟩
  · rcases List.mem_append.1 hx with hx | hx
    · exact h.1 x hx
    · simp at hx; subst hx; exact ⟨hk.kd, hk.lo, hk.hi⟩
  · refine List.pairwise_append.2 ⟨h.2, by simp, fun x hx y hy => ?_⟩
    simp at hy
    subst hy
    obtain ⟨j, hj⟩ := List.mem_iff_getElem?.1 hx
    have hjk : j < k := by
      have := (List.getElem?_eq_some_iff.1 hj).1
      rw [List.length_take] at this
      omega
    have hlt := (List.getElem?_eq_some_iff.1 ho).1
    rw [List.getElem?_take_of_lt hjk] at hj
    obtain ⟨p, hp⟩ : ∃ p, ops[k - 1]? = some p := ⟨ops[k - 1]'(by omega), List.getElem?_eq_getElem (by omega)⟩
    have h1 := hk.up p (by omega) hp
    by_cases e : j = k - 1
    · subst e
      rw [hp] at hj
      cases hj
      exact h1
    · have h2 := List.pairwise_iff_getElem.1 h.2 j (k - 1) (by rw [List.length_take]; omega) (by rw [List.length_take]; omega) (by omega)
      have e1 : (ops.take k)[j]'(by rw [List.length_take]; omega) = x := by
        rw [List.getElem_take]
        exact (List.getElem?_eq_some_iff.1 hj).2
      have e2 : (ops.take k)[k - 1]'(by rw [List.length_take]; omega) = p := by
        rw [List.getElem_take]
        exact (List.getElem?_eq_some_iff.1 hp).2
      rw [e1, e2] at h2
      omega
theorem info_at {ops : List Op5} {fr la : Int} (h : infO ops fr la) {k : Nat} {o : Op5} (ho : ops[k]? = some o) : InK ops fr la k o := by
  have h1 := h.1 o (List.mem_of_getElem? ho)
  refine ⟨h1.1, h1.2.1, h1.2.2, fun p hk hp => ?_⟩
  obtain ⟨l1, e1⟩ := List.getElem?_eq_some_iff.1 ho
  obtain ⟨l2, e2⟩ := List.getElem?_eq_some_iff.1 hp
  have := List.pairwise_iff_getElem.1 h.2 (k - 1) k l2 l1 (by omega)
  rw [e1, e2] at this
  exact this
/-- What inForm answers. -/
def InfE (e : Ending) (ops : List Op5) (fr la : Int) : Prop := ∃ x : Bool, e = .returned (.bool x) ∧ (x = true ↔ infO ops fr la)
theorem infE_no {ops : List Op5} {fr la : Int} (h : ¬ infO ops fr la) : InfE (.returned (.bool false)) ops fr la := ⟨false, rfl, ⟨fun h => (by cases h), fun h' => absurd h' h⟩⟩
theorem infE_yes {ops : List Op5} {fr la : Int} (h : infO ops fr la) : InfE (.returned (.bool true)) ops fr la := ⟨true, rfl, ⟨fun _ => h, fun _ => rfl⟩⟩
theorem ret_b {x y : Bool} (h : x = y) : Ending.returned (.bool x) = .returned (.bool y) := by rw [h]
set_option maxHeartbeats 4000000 in
theorem bainform_any (vo : Value) (ops : List Op5) (fr la : Int) (w : World) (hO : ER E5 w vo ops) :
    Calls Try.prog 41 #[vo, .int .i64 fr, .int .i64 la] w fun e w' => InfE e ops fr la ∧ Below w.heap.size w w' := by
  obtain ⟨q, cap, g, off, rfl, hc, hm, hp, hr⟩ := hO.at
  clear hO
  generalize hn : ops.length = n at *
  go_enter Try.func41, Try.ntmps41
  go_wp2_with fail
  go_loopw [11] (fun i wr => ∃ k : Nat, k ≤ n ∧ i = .int .i64 (k : Int) ∧ infO (ops.take k) fr la ∧ Below w.heap.size w wr) (fun i _ => n - (intOf i).toNat)
  case atStart => exact ⟨0, by omega, rfl, ⟨fun o ho => by simp at ho, by simp⟩, Below.refl _ _⟩
  case round =>
    obtain ⟨k, hk, rfl, hin, hw⟩ := hrel
    by_cases c : k = n
    · subst c
      rw [List.take_of_length_le (by omega)] at hin
      have HI : Hid (infO ops fr la) := hin
      clear hr hin
      go_wp2_with fail
      go_ret
      exact ⟨infE_yes HI.out, hw⟩
    · obtain ⟨o, ho⟩ : ∃ o, ops[k]? = some o := ⟨ops[k], List.getElem?_eq_getElem (by omega)⟩
      obtain ⟨rfl, hgk⟩ := hp (by omega)
      have hki : (k : Int) < (n : Int) := by omega
      have z0 := keep_cell hw (hr k o ho 0 _ rfl) hgk
      have z1 := keep_cell hw (hr k o ho 1 _ rfl) hgk
      have z2 := keep_cell hw (hr k o ho 2 _ rfl) hgk
      have z3 := keep_cell hw (hr k o ho 3 _ rfl) hgk
      have z4 := keep_cell hw (hr k o ho 4 _ rfl) hgk
      rw [Nat.add_zero, show E5.k = 5 from rfl] at z0
      rw [show E5.k = 5 from rfl] at z1 z2 z3 z4
      obtain ⟨A, hE, hX, hwA⟩ := blk1 wr (opA o) 35
      have hwW := ab_trans hw hwA
      have y0 : ∀ y : Cls A, y.val.cell? ⟨wr.heap.size, 0, none⟩ = some (.int .i64 o.s) := fun y => (hX.keep y.prop).at rfl
      have y1 : A.cell? ⟨wr.heap.size, 1, none⟩ = some (.int .i64 o.k) := hX.at rfl
      have HNo : Hid (¬ InK ops fr la k o → ¬ infO ops fr la) := fun h1 h2 => h1 (info_at h2 ho)
      have HYes : Hid (InK ops fr la k o → infO (ops.take (k + 1)) fr la) := fun h => info_snoc hin ho h
      have HP : Hid (∀ p, 0 < k → ops[k - 1]? = some p → ∀ y : Cls A, y.val.cell? ⟨g, off + (k - 1) * 5, none⟩ = some (.int .i64 p.s)) := fun p hk0 hp0 y => by
        have := hr (k - 1) p hp0 0 _ rfl
        rw [Nat.add_zero] at this
        exact keep_cell (ab_trans hwW y.prop) this hgk
      have HX : Hid (∀ y : Cls A, Below w.heap.size w y.val) := fun y => ab_trans hwW y.prop
      clear hin hr hp
      unfold opA at hE
      by_cases k1 : o.k = 1 ∨ o.k = 2
      · have k1' := k1
        rcases k1 with k1 | k1
        · have n1 : (o.k != 1) = false := by simp [k1]
          by_cases c1 : o.s < fr
          · skip
            have HF : Hid (¬ infO ops fr la) := HNo.out (fun h => absurd h.lo (by omega))
            clear HNo HYes k1
            go_upto_region 6 with fail
            have HZ := cls_some A
            refine wp_region_below (by kernel_rfl) (by kernel_rfl) ?_
            repeat (go_big_quiet_step (fail))
            refine wpQuiet_nil ?_
            rintro V ⟨y, rfl⟩
            have hwV := HX.out y
            go_wp2_with fail
            go_ret
            exact ⟨infE_no HF.out, hwV⟩
          by_cases c2 : la < o.s
          · skip
            have HF : Hid (¬ infO ops fr la) := HNo.out (fun h => absurd h.hi (by omega))
            clear HNo HYes k1
            go_upto_region 6 with fail
            have HZ := cls_some A
            refine wp_region_below (by kernel_rfl) (by kernel_rfl) ?_
            repeat (go_big_quiet_step (fail))
            refine wpQuiet_nil ?_
            rintro V ⟨y, rfl⟩
            have hwV := HX.out y
            go_wp2_with fail
            go_ret
            exact ⟨infE_no HF.out, hwV⟩
          by_cases c3 : k = 0
          · have c3' : Hid (decide (0 < k) = false) := decide_eq_false (by omega)
            have HF : Hid (infO (ops.take (k + 1)) fr la) := HYes.out ⟨k1', by omega, by omega, fun p h0 _ => absurd h0 (by omega)⟩
            clear HNo HYes k1 c3
            go_upto_region 6 with fail
            have HZ := cls_some A
            have c30 := c3'.out
            refine wp_region_below (by kernel_rfl) (by kernel_rfl) ?_
            repeat (go_big_quiet_step (fail))
            refine wpQuiet_nil ?_
            clear c30
            rintro V ⟨y, rfl⟩
            have hwV := HX.out y
            go_wp2_with fail
            go_roundw
            case rel => exact ⟨k + 1, by omega, by go_num, HF.out, hwV⟩
            case measure => simp [intOf]; omega
          obtain ⟨j, rfl⟩ : ∃ j, k = j + 1 := ⟨k - 1, by omega⟩
          obtain ⟨p, hp⟩ : ∃ p, ops[j]? = some p := ⟨ops[j]'(by omega), List.getElem?_eq_getElem (by omega)⟩
          have c3' : (0 : Int) < ((j + 1 : Nat) : Int) := by omega
          have hjn : (j : Int) < (n : Int) := by omega
          have p0 : ∀ y : Cls A, y.val.cell? ⟨g, off + j * 5, none⟩ = some (.int .i64 p.s) := HP.out p (by omega) (by rw [Nat.add_sub_cancel]; exact hp)
          have HPp : Hid (ops[j]? = some p) := hp
          clear hp HP c3
          by_cases c4 : o.s ≤ p.s
          · skip
            have HF : Hid (¬ infO ops fr la) := HNo.out (fun h => absurd (h.up p (by omega) (by rw [Nat.add_sub_cancel]; exact HPp.out)) (by omega))
            clear HNo HYes k1
            go_upto_region 6 with fail
            have HZ := cls_some A
            refine wp_region_below (by kernel_rfl) (by kernel_rfl) ?_
            repeat (go_big_quiet_step (fail))
            refine wpQuiet_nil ?_
            rintro V ⟨y, rfl⟩
            have hwV := HX.out y
            go_wp2_with fail
            go_ret
            exact ⟨infE_no HF.out, hwV⟩
          · skip
            have HF : Hid (infO (ops.take (j + 1 + 1)) fr la) := HYes.out ⟨k1', by omega, by omega, fun p' _ hp' => by rw [Nat.add_sub_cancel, HPp.out] at hp'; cases hp'; omega⟩
            clear HNo HYes k1
            go_upto_region 6 with fail
            have HZ := cls_some A
            refine wp_region_below (by kernel_rfl) (by kernel_rfl) ?_
            repeat (go_big_quiet_step (fail))
            refine wpQuiet_nil ?_
            rintro V ⟨y, rfl⟩
            have hwV := HX.out y
            go_wp2_with fail
            go_roundw
            case rel => exact ⟨j + 1 + 1, by omega, by go_num, HF.out, hwV⟩
            case measure => simp [intOf]; omega
        · have n1 : (o.k != 1) = true := by simp [k1]
          have n2 : (o.k != 2) = false := by simp [k1]
          by_cases c1 : o.s < fr
          · skip
            have HF : Hid (¬ infO ops fr la) := HNo.out (fun h => absurd h.lo (by omega))
            clear HNo HYes k1
            go_upto_region 6 with fail
            have HZ := cls_some A
            refine wp_region_below (by kernel_rfl) (by kernel_rfl) ?_
            repeat (go_big_quiet_step (fail))
            refine wpQuiet_nil ?_
            rintro V ⟨y, rfl⟩
            have hwV := HX.out y
            go_wp2_with fail
            go_ret
            exact ⟨infE_no HF.out, hwV⟩
          by_cases c2 : la < o.s
          · skip
            have HF : Hid (¬ infO ops fr la) := HNo.out (fun h => absurd h.hi (by omega))
            clear HNo HYes k1
            go_upto_region 6 with fail
            have HZ := cls_some A
            refine wp_region_below (by kernel_rfl) (by kernel_rfl) ?_
            repeat (go_big_quiet_step (fail))
            refine wpQuiet_nil ?_
            rintro V ⟨y, rfl⟩
            have hwV := HX.out y
            go_wp2_with fail
            go_ret
            exact ⟨infE_no HF.out, hwV⟩
          by_cases c3 : k = 0
          · have c3' : Hid (decide (0 < k) = false) := decide_eq_false (by omega)
            have HF : Hid (infO (ops.take (k + 1)) fr la) := HYes.out ⟨k1', by omega, by omega, fun p h0 _ => absurd h0 (by omega)⟩
            clear HNo HYes k1 c3
            go_upto_region 6 with fail
            have HZ := cls_some A
            have c30 := c3'.out
            refine wp_region_below (by kernel_rfl) (by kernel_rfl) ?_
            repeat (go_big_quiet_step (fail))
            refine wpQuiet_nil ?_
            clear c30
            rintro V ⟨y, rfl⟩
            have hwV := HX.out y
            go_wp2_with fail
            go_roundw
            case rel => exact ⟨k + 1, by omega, by go_num, HF.out, hwV⟩
            case measure => simp [intOf]; omega
          obtain ⟨j, rfl⟩ : ∃ j, k = j + 1 := ⟨k - 1, by omega⟩
          obtain ⟨p, hp⟩ : ∃ p, ops[j]? = some p := ⟨ops[j]'(by omega), List.getElem?_eq_getElem (by omega)⟩
          have c3' : (0 : Int) < ((j + 1 : Nat) : Int) := by omega
          have hjn : (j : Int) < (n : Int) := by omega
          have p0 : ∀ y : Cls A, y.val.cell? ⟨g, off + j * 5, none⟩ = some (.int .i64 p.s) := HP.out p (by omega) (by rw [Nat.add_sub_cancel]; exact hp)
          have HPp : Hid (ops[j]? = some p) := hp
          clear hp HP c3
          by_cases c4 : o.s ≤ p.s
          · skip
            have HF : Hid (¬ infO ops fr la) := HNo.out (fun h => absurd (h.up p (by omega) (by rw [Nat.add_sub_cancel]; exact HPp.out)) (by omega))
            clear HNo HYes k1
            go_upto_region 6 with fail
            have HZ := cls_some A
            refine wp_region_below (by kernel_rfl) (by kernel_rfl) ?_
            repeat (go_big_quiet_step (fail))
            refine wpQuiet_nil ?_
            rintro V ⟨y, rfl⟩
            have hwV := HX.out y
            go_wp2_with fail
            go_ret
            exact ⟨infE_no HF.out, hwV⟩
          · skip
            have HF : Hid (infO (ops.take (j + 1 + 1)) fr la) := HYes.out ⟨k1', by omega, by omega, fun p' _ hp' => by rw [Nat.add_sub_cancel, HPp.out] at hp'; cases hp'; omega⟩
            clear HNo HYes k1
            go_upto_region 6 with fail
            have HZ := cls_some A
            refine wp_region_below (by kernel_rfl) (by kernel_rfl) ?_
            repeat (go_big_quiet_step (fail))
            refine wpQuiet_nil ?_
            rintro V ⟨y, rfl⟩
            have hwV := HX.out y
            go_wp2_with fail
            go_roundw
            case rel => exact ⟨j + 1 + 1, by omega, by go_num, HF.out, hwV⟩
            case measure => simp [intOf]; omega
      · have n1 : (o.k != 1) = true := by simp; omega
        have n2 : (o.k != 2) = true := by simp; omega
        have HF : Hid (¬ infO ops fr la) := HNo.out (fun h => k1 h.kd)
        clear HNo HYes k1 HP HX
        go_wp2_with fail
        go_ret
        exact ⟨infE_no HF.out, hwW⟩
end Go.Proofs.Ytogbhiklhcibdaa
namespace Go.Proofs.Ytogbhiklhcibdaa
open Go.RowKit Go.Maps
set_option linter.unusedVariables false
set_option maxRecDepth 100000

theorem baraise_no {B : Nat} {K : Bkk} {S : Bsn} (n : Int) (p : Int × Int) (w : World) (h : Bq w B K S) (hn : hasN n S.ba.length = false) :
    Calls Try.prog 13 #[bptr K, .int .i64 n, Plc p.1 p.2] w fun e w' => e = .returned (.tuple #[.int .i64 0, Err 1]) ∧ Below w.heap.size w w' := by
  obtain ⟨A, hE, hX, hw⟩ := blk1 w #[.int .i64 p.1, .int .i64 p.2] 24
  have HS := bhasL_any n A (h.keep hw)
  rw [hn] at HS
  clear h hn
  obtain ⟨b, m, gf, cf, gb, cb, vr⟩ := K
  obtain ⟨p0, p1⟩ := p
  try dsimp only at *
  go_enter Try.func13, Try.ntmps13
  go_wp2_with (go_at_call 22; refine HS.mono ?_; rintro e W ⟨rfl, rfl⟩)
  go_ret2
  exact ⟨rfl, hw⟩
theorem baraise_nil (n : Int) (p : Int × Int) (w : World) :
    Calls Try.prog 13 #[.pointer none, .int .i64 n, Plc p.1 p.2] w fun e w' => e = .returned (.tuple #[.int .i64 0, Err 1]) ∧ Below w.heap.size w w' := by
  obtain ⟨A, hE, hX, hw⟩ := blk1 w #[.int .i64 p.1, .int .i64 p.2] 24
  obtain ⟨p0, p1⟩ := p
  try dsimp only at *
  go_enter Try.func13, Try.ntmps13
  go_wp2_with (go_at_call 22; refine (bhasL_nil _ _).mono ?_; rintro e W ⟨rfl, rfl⟩)
  go_ret2
  exact ⟨rfl, hw⟩
theorem baraise_ok {B : Nat} {K : Bkk} {S : Bsn} (i : Nat) (p : Int × Int) (w : World) (h : Bq w B K S) (hi : i < S.ba.length) (hp : J64 p.1 ∧ J64 p.2) :
    Calls Try.prog 13 #[bptr K, .int .i64 (i : Int), Plc p.1 p.2] w fun e w' => e = .returned (.tuple #[.int .i64 ((S.ks.length : Int) - ((drpB (lifB S i p)).ks.length : Int)), .nilIface]) ∧ Bq w' B K (drpB (lifB S i p)) ∧ Frm (bkB K) w w' := by
  obtain ⟨A, hE, hX, hw⟩ := blk1 w #[.int .i64 p.1, .int .i64 p.2] 24
  have hA := h.keep hw
  have HS := bhasL_any (i : Int) A hA
  have hh : hasN (i : Int) S.ba.length = true := decide_eq_true (by omega)
  rw [hh] at HS
  have HL := balift_any i p A hA hi hp
  have HD := fun (W : World) (hq : Bq W B K (lifB S i p)) => badrop_any W hq
  have hk : (lifB S i p).ks = S.ks := rfl
  have y0 : A.cell? ⟨w.heap.size, 0, none⟩ = some (.int .i64 p.1) := hX.at rfl
  have y1 : A.cell? ⟨w.heap.size, 1, none⟩ = some (.int .i64 p.2) := hX.at rfl
  rw [hk] at HD
  clear h hh hA hX hk
  generalize lifB S i p = T at *
  obtain ⟨b, m, gf, cf, gb, cb, vr⟩ := K
  obtain ⟨p0, p1⟩ := p
  try dsimp only at *
  go_enter Try.func13, Try.ntmps13
  go_wp2_with (first
    | (go_at_call 22; refine HS.mono ?_; rintro e W ⟨rfl, rfl⟩)
    | (go_at_call 32; refine HL.mono ?_; rintro e W2 ⟨rfl, hq2, hf2⟩)
    | (go_at_call 33; refine (HD _ hq2).mono ?_; rintro e W3 ⟨rfl, hq3, hf3⟩))
  go_ret2
  exact ⟨rfl, hq3, ((frm_below hw).trans hf2).trans hf3⟩
/-- A slice that is read, whatever a basin's calls turn. -/
def Stay {α : Type} (E : En α) (K : Bkk) (w : World) (v : Value) (l : List α) : Prop := ∀ V, Frm (bkB K) w V → ER E V v l
theorem Stay.er {α : Type} {E : En α} {K : Bkk} {w : World} {v : Value} {l : List α} (h : Stay E K w v l) : ER E w v l := h w (Frm.refl _ _)
theorem Stay.frm {α : Type} {E : En α} {K : Bkk} {w W : World} {v : Value} {l : List α} (h : Stay E K w v l) (hf : Frm (bkB K) w W) : Stay E K W v l := fun V hV => h V (hf.trans hV)
theorem stay_out {α : Type} {E : En α} {K : Bkk} {w : World} {v : Value} {l : List α} (h : ER E w v l) (hx : OutB v (bkB K)) : Stay E K w v l := fun V hV => h.frm hV hx
theorem fform_src {S : Bsn} {src fr la : Int} {cut : List (Int × Int)} {ops : List Op5} (h : hasN src S.fl.length = false) : ¬ fdF S src fr la cut ops := fun hf => absurd hf.1 (of_decide_eq_false h)
set_option maxHeartbeats 4000000 in
theorem bafeed_form {B : Nat} {K : Bkk} {S : Bsn} (src fr la : Int) (vc vo : Value) (cut : List (Int × Int)) (ops : List Op5) (w : World) (h : Bq w B K S) (hc : ER E2 w vc cut) (hO : ER E5 w vo ops) (hn : ¬ fdF S src fr la cut ops) :
    Calls Try.prog 17 #[bptr K, .int .i64 src, .int .i64 fr, .int .i64 la, vc, vo] w fun e w' => e = .returned (Err 2) ∧ Below w.heap.size w w' := by
  obtain ⟨qc, cc, rfl⟩ := hc.form
  obtain ⟨qo, co, eo⟩ := hO.form
  have HS := bhasS_any src w h
  have HL := blanes_any w h
  have HI := bainform_any vo ops fr la w hO
  have HN : Hid (¬ fdF S src fr la cut ops) := hn
  rw [eo] at HI ⊢
  clear hc hO hn eo
  have hca : (cut.length : Int) ≤ 9223372036854775807 → True := fun _ => trivial
  cases hs : hasN src S.fl.length
  · rw [hs] at HS
    clear h HL HI
    generalize cut.length = nc at *
    generalize ops.length = no at *
    obtain ⟨b, m, gf, cf, gb, cb, vr⟩ := K
    try dsimp only at *
    go_enter Try.func17, Try.ntmps17
    go_wp2_with (go_at_call 39; refine HS.mono ?_; rintro e W ⟨rfl, rfl⟩)
    go_ret
    exact ⟨rfl, Below.refl _ _⟩
  · rw [hs] at HS
    have hsr := of_decide_eq_true hs
    by_cases c2 : cut.length = S.ba.length
    · have c2b : ((cut.length : Int) != (S.ba.length : Int)) = false := by simp [c2]
      by_cases c3 : la < wrap64 (fr - 1)
      · clear h HI
        have HC : Hid (cut.length = S.ba.length) := c2
        clear c2
        generalize cut.length = nc at *
        generalize ops.length = no at *
        generalize S.ba.length = nb at *
        obtain ⟨b, m, gf, cf, gb, cb, vr⟩ := K
        try dsimp only at *
        go_enter Try.func17, Try.ntmps17
        go_wp2_with (first
          | (go_at_call 39; refine HS.mono ?_; rintro e W ⟨rfl, rfl⟩)
          | (go_at_call 40; refine HL.mono ?_; rintro e W ⟨rfl, rfl⟩))
        go_ret
        exact ⟨rfl, Below.refl _ _⟩
      · have HF : Hid (¬ infO ops fr la) := fun hi => HN.out ⟨hsr, c2, by omega, hi⟩
        clear h
        have HC : Hid (cut.length = S.ba.length) := c2
        clear c2
        generalize cut.length = nc at *
        generalize ops.length = no at *
        generalize S.ba.length = nb at *
        obtain ⟨b, m, gf, cf, gb, cb, vr⟩ := K
        try dsimp only at *
        go_enter Try.func17, Try.ntmps17
        go_wp2_with (first
          | (go_at_call 39; refine HS.mono ?_; rintro e W ⟨rfl, rfl⟩)
          | (go_at_call 40; refine HL.mono ?_; rintro e W ⟨rfl, rfl⟩)
          | (go_at_call 41; refine HI.mono ?_; rintro e W ⟨⟨x, rfl, hx⟩, hb⟩; obtain rfl : x = false := (by cases x; rfl; exact absurd (hx.1 rfl) HF.out); clear hx))
        go_ret
        exact ⟨rfl, hb⟩
    · have c2b : ((cut.length : Int) != (S.ba.length : Int)) = true := by simp; omega
      clear h HI c2
      generalize cut.length = nc at *
      generalize ops.length = no at *
      generalize S.ba.length = nb at *
      obtain ⟨b, m, gf, cf, gb, cb, vr⟩ := K
      try dsimp only at *
      go_enter Try.func17, Try.ntmps17
      go_wp2_with (first
        | (go_at_call 39; refine HS.mono ?_; rintro e W ⟨rfl, rfl⟩)
        | (go_at_call 40; refine HL.mono ?_; rintro e W ⟨rfl, rfl⟩))
      go_ret
      exact ⟨rfl, Below.refl _ _⟩
theorem ba_mix {S : Bsn} {cut : List (Int × Int)} (hl : cut.length = S.ba.length) {k : Nat} {p : Int × Int} (hk : k < S.ba.length) (hp : cut[k]? = some p) : lifB { S with ba := mixP S.ba cut k } k p = { S with ba := mixP S.ba cut (k + 1) } := by
  obtain ⟨c, hc⟩ : ∃ c, S.ba[k]? = some c := ⟨S.ba[k], List.getElem?_eq_getElem hk⟩
  have h1 : (mixP S.ba cut k)[k]? = some c := by rw [mixP_at hl hk, hc]
  rw [lifB_at (S := { S with ba := mixP S.ba cut k }) h1, mixP_next hl hc hp]
set_option maxHeartbeats 4000000 in
theorem bafeed_stale {B : Nat} {K : Bkk} {S : Bsn} (i : Nat) (fr la : Int) (vc vo : Value) (cut : List (Int × Int)) (ops : List Op5) (w : World) (h : Bq w B K S) (hc : ER E2 w vc cut) (hO : ER E5 w vo ops) (hn : fdF S (i : Int) fr la cut ops) {f : Flw} (hf : S.fl[i]? = some f) (hne : fr ≠ f.nx) :
    Calls Try.prog 17 #[bptr K, .int .i64 (i : Int), .int .i64 fr, .int .i64 la, vc, vo] w fun e w' => e = .returned (Err 11) ∧ Below w.heap.size w w' := by
  obtain ⟨qc, cc, rfl⟩ := hc.form
  obtain ⟨qo, co, eo⟩ := hO.form
  have HS := bhasS_any (i : Int) w h
  have HL := blanes_any w h
  have HI := bainform_any vo ops fr la w hO
  obtain ⟨n1, n2, n3, n4⟩ := hn
  have hs : hasN (i : Int) S.fl.length = true := decide_eq_true n1
  have HF : Hid (infO ops fr la) := n4
  have c2b : ((cut.length : Int) != (S.ba.length : Int)) = false := by simp [n2]
  have c3 : ¬ la < wrap64 (fr - 1) := by omega
  have c4 : (fr != f.nx) = true := by simp [hne]
  have x3 : ∀ V, Below w.heap.size w V → V.cell? ⟨K.b, 3, none⟩ = some (.slice (some ⟨K.gf, 0, none⟩) S.fl.length K.cf) := fun V hb => (h.cells V hb).2.2.2.1
  have z0 : ∀ V, Below w.heap.size w V → V.cell? ⟨K.gf, i * 3, none⟩ = some (.int .i64 f.nx) := fun V hb => (h.keep hb).fe.cell (i := 0) hf rfl
  have hli : (i : Int) < (S.fl.length : Int) := n1.2
  rw [hs] at HS
  rw [eo] at HI ⊢
  clear hc hO eo h n1 n2 n3 n4 hs hf hne
  generalize cut.length = nc at *
  generalize ops.length = no at *
  generalize S.ba.length = nb at *
  generalize S.fl.length = nf at *
  obtain ⟨b, m, gf, cf, gb, cb, vr⟩ := K
  try dsimp only at *
  go_enter Try.func17, Try.ntmps17
  go_wp2_with (first
    | (go_at_call 39; refine HS.mono ?_; rintro e W ⟨rfl, rfl⟩)
    | (go_at_call 40; refine HL.mono ?_; rintro e W ⟨rfl, rfl⟩)
    | (go_at_call 41; refine HI.mono ?_; rintro e W ⟨⟨x, rfl, hx⟩, hb⟩; obtain rfl : x = true := hx.2 HF.out; clear hx; have x3' := x3 _ hb; have z0' := z0 _ hb))
  go_ret
  exact ⟨rfl, hb⟩
/-- The state that Feed leaves, and its error. -/
def fdR (S : Bsn) (i : Nat) (cut : List (Int × Int)) (ops : List Op5) : Bsn × Option Int := takB (drpB (cutB S cut)) i ops
def fdZ (S : Bsn) (i : Nat) (la : Int) (cut : List (Int × Int)) (ops : List Op5) : Bsn := nxtB (fdR S i cut ops).1 i (tkN la (fdR S i cut ops))
set_option maxHeartbeats 4000000 in
theorem bafeed_ok {B : Nat} {K : Bkk} {S : Bsn} (i : Nat) (fr la : Int) (vc vo : Value) (cut : List (Int × Int)) (ops : List Op5) (w : World) (h : Bq w B K S) (hc : Stay E2 K w vc cut) (hO : Stay E5 K w vo ops) (hn : fdF S (i : Int) fr la cut ops) {f : Flw} (hf : S.fl[i]? = some f) (hne : fr = f.nx)
    (hcj : ∀ p ∈ cut, J64 p.1 ∧ J64 p.2) (hoj : ∀ o ∈ ops, Fit5 o) (hla : J64 la) :
    Calls Try.prog 17 #[bptr K, .int .i64 (i : Int), .int .i64 fr, .int .i64 la, vc, vo] w fun e w' => e = .returned (errV (tkE (fdR S i cut ops))) ∧ Bq w' B K (fdZ S i la cut ops) ∧ Frm (bkB K) w w' := by
  obtain ⟨qc, cc, ec⟩ := hc.er.form
  obtain ⟨qo, co, eo⟩ := hO.er.form
  have HS := bhasS_any (i : Int) w h
  have HL := blanes_any w h
  have HI := bainform_any vo ops fr la w hO.er
  obtain ⟨n1, n2, n3, n4⟩ := hn
  have hs : hasN (i : Int) S.fl.length = true := decide_eq_true n1
  have HF : Hid (infO ops fr la) := n4
  have c2b : ((cut.length : Int) != (S.ba.length : Int)) = false := by simp [n2]
  have c3 : ¬ la < wrap64 (fr - 1) := by omega
  have c4 : (fr != f.nx) = false := by simp [hne]
  have x3 : ∀ V, Below w.heap.size w V → V.cell? ⟨K.b, 3, none⟩ = some (.slice (some ⟨K.gf, 0, none⟩) S.fl.length K.cf) := fun V hb => (h.cells V hb).2.2.2.1
  have z0 : ∀ V, Below w.heap.size w V → V.cell? ⟨K.gf, i * 3, none⟩ = some (.int .i64 f.nx) := fun V hb => (h.keep hb).fe.cell (i := 0) hf rfl
  have hli : (i : Int) < (S.fl.length : Int) := n1.2
  have HB : Hid (∀ V, Below w.heap.size w V → Bq V B K S) := fun V hb => h.keep hb
  have HCl : Hid (cut.length = S.ba.length) := n2
  have h12 := h.ok.lan.2
  have HLI : Hid (i < S.fl.length) := by have := n1.2; show _ < _; omega
  have hcp : cut.length ≤ cc := by
    obtain ⟨q', c', g, off, e1, e2, -⟩ := hc.er
    rw [ec] at e1
    injection e1 with _ _ e3
    omega
  have HT : Hid (∀ (W : World) (T : Bsn), Frm (bkB K) w W → Bq W B K T → i < T.fl.length → Calls Try.prog 42 #[bptr K, .int .i64 (i : Int), .int .i64 la, vo] W fun e w' => e = .returned (errV (tkE (takB T i ops))) ∧ Bq w' B K (nxtB (takB T i ops).1 i (tkN la (takB T i ops))) ∧ Frm (bkB K) W w') := fun W T hfr hq hl => batake_any i la vo ops W hq hl (hO.frm hfr) hoj hla
  have HCu : Hid (∀ V, Frm (bkB K) w V → ER E2 V vc cut) := hc
  rw [hs] at HS
  rw [eo] at HI HT
  rw [ec] at HCu
  rw [ec, eo]
  have hne' : Hid (fr = f.nx) := hne
  clear hc hO eo ec h n1 n2 n3 n4 hs hf hne
  generalize hnc : cut.length = nc at *
  generalize ops.length = no at *
  generalize hnb : S.ba.length = nb at *
  generalize hnf : S.fl.length = nf at *
  have hcu12 : nc ≤ 12 := by have := HCl.out; omega
  obtain ⟨b, m, gf, cf, gb, cb, vr⟩ := K
  try dsimp only at *
  go_enter Try.func17, Try.ntmps17
  go_wp2_with (first
    | (go_at_call 39; refine HS.mono ?_; rintro e w ⟨rfl, rfl⟩)
    | (go_at_call 40; refine HL.mono ?_; rintro e w ⟨rfl, rfl⟩)
    | (go_at_call 41; refine HI.mono ?_; rintro e W ⟨⟨x, rfl, hx⟩, hb⟩; obtain rfl : x = true := hx.2 HF.out; clear hx; have x3' := x3 _ hb; have z0' := z0 _ hb))
  have hBW := HB.out W hb
  clear x3 z0 x3' z0' HS HL HI
  have hB0 : Bq W B ⟨b, m, gf, cf, gb, cb, vr⟩ { S with ba := mixP S.ba cut 0 } := by rw [mixP_0]; exact hBW
  have hF0 : Frm (bkB ⟨b, m, gf, cf, gb, cb, vr⟩) w W := frm_below hb
  go_loopw [55] (fun z wr => ∃ k : Nat, k ≤ nc ∧ z = .int .i64 (k : Int) ∧ Bq wr B ⟨b, m, gf, cf, gb, cb, vr⟩ { S with ba := mixP S.ba cut k } ∧ Frm (bkB ⟨b, m, gf, cf, gb, cb, vr⟩) w wr) (fun z _ => nc - (intOf z).toNat)
  case atStart => exact ⟨0, by omega, rfl, hB0, hF0⟩
  case round =>
    clear hB0 hF0 hBW
    obtain ⟨k, hk, rfl, hB, hF⟩ := hrel
    by_cases c : k = nc
    · subst c
      have HE : Hid ({ S with ba := mixP S.ba cut k } = cutB S cut) := by
        show _ = cutB S cut
        have h1 := HCl.out
        unfold cutB
        rw [← mixP_all (ct := S.ba) (ps := cut) (by omega)]
        rw [hnb, ← h1]
      have hBc : Bq wr B ⟨b, m, gf, cf, gb, cb, vr⟩ (cutB S cut) := by rw [← HE.out]; exact hB
      have HD := badrop_any wr hBc
      have hfl : (drpB (cutB S cut)).fl = S.fl := rfl
      have HT' := fun (W2 : World) (hq : Bq W2 B ⟨b, m, gf, cf, gb, cb, vr⟩ (drpB (cutB S cut))) (hfr : Frm (bkB ⟨b, m, gf, cf, gb, cb, vr⟩) w W2) => HT.out W2 _ hfr hq (by rw [hfl, hnf]; exact HLI.out)
      have HZ : Hid (∀ e, e = fdR S i cut ops → (nxtB e.1 i (tkN la e)) = fdZ S i la cut ops) := fun e he => by rw [he]; rfl
      have HR : Hid (takB (drpB (cutB S cut)) i ops = fdR S i cut ops) := rfl
      clear hB HT hfl
      generalize drpB (cutB S cut) = T at *
      generalize (cutB S cut).ks.length = kk at *
      go_wp2_with (first
        | (go_at_call 33; refine HD.mono ?_; rintro e W2 ⟨rfl, hq2, hf2⟩)
        | (go_at_call 42; refine (HT' _ hq2 (hF.trans hf2)).mono ?_; rintro e W3 ⟨rfl, hq3, hf3⟩))
      go_ret
      exact ⟨by rw [← HR.out]; rfl, by rw [← HZ.out _ rfl, ← HR.out]; exact hq3, (hF.trans hf2).trans hf3⟩
    · obtain ⟨p, hp⟩ : ∃ p, cut[k]? = some p := ⟨cut[k]'(by omega), List.getElem?_eq_getElem (by omega)⟩
      have hki : (k : Int) < (nc : Int) := by omega
      obtain ⟨q', cap', g, off, eq', -, -, hpp, hr⟩ := (HCu.out wr hF).at
      rw [hnc] at eq'
      injection eq' with e1 _ e3
      subst e1
      subst e3
      rw [hnc] at hpp
      obtain ⟨rfl, hgk⟩ := hpp (by omega)
      have y0 := hr k p hp 0 _ rfl
      have y1 := hr k p hp 1 _ rfl
      rw [Nat.add_zero, show E2.k = 2 from rfl] at y0
      rw [show E2.k = 2 from rfl] at y1
      obtain ⟨A, hE, hX, hwA⟩ := blk1 wr #[.int .i64 p.1, .int .i64 p.2] 24
      have g0 : A.cell? ⟨wr.heap.size, 0, none⟩ = some (.int .i64 p.1) := hX.at rfl
      have g1 : A.cell? ⟨wr.heap.size, 1, none⟩ = some (.int .i64 p.2) := hX.at rfl
      have hml : (mixP S.ba cut k).length = nb := by
        have h1 := HCl.out
        rw [mixP_len (by omega) (by omega)]
        exact hnb
      have HLf := balift_any k p A (hB.keep hwA) (by show k < (mixP S.ba cut k).length; rw [hml]; have := HCl.out; omega) (hcj p (List.mem_of_getElem? hp))
      have HM : Hid (lifB { S with ba := mixP S.ba cut k } k p = { S with ba := mixP S.ba cut (k + 1) }) := ba_mix (by have := HCl.out; omega) (by have := HCl.out; omega) hp
      rw [HM.out] at HLf
      have hFA := hF.trans (frm_below hwA)
      clear hr hpp hp hB hF hX
      go_wp2_with (go_at_call 32; refine HLf.mono ?_; rintro e W2 ⟨rfl, hq2, hf2⟩)
      go_roundw
      case rel => exact ⟨k + 1, by omega, by go_num, hq2, hFA.trans hf2⟩
      case measure => simp [intOf]; omega
end Go.Proofs.Ytogbhiklhcibdaa
namespace Go.Proofs.Ytogbhiklhcibdaa
open Go.RowKit
set_option linter.unusedVariables false
set_option maxRecDepth 100000

/-- No cell is ahead of its lane's base. -/
def npB (S : Bsn) : Prop := ∀ k ∈ S.ks, pasB S.ba k = false
theorem np_drp (S : Bsn) : npB (drpB S) := fun k hk => by
  have := (List.mem_filter.1 hk).2
  show pasB S.ba k = false
  cases h : pasB S.ba k
  · rfl
  · rw [h] at this; cases this
theorem pou_same (S : Bsn) (src : Int) (o : Op5) : (pouB S src o).res = S.res ∧ (pouB S src o).sh = S.sh ∧ (pouB S src o).mo = S.mo ∧ (pouB S src o).fl = S.fl ∧ (pouB S src o).ba = S.ba := fold_same _ _ _
theorem pnc_same (S : Bsn) (i : Nat) (t : Int) : (pncB S i t).res = S.res ∧ (pncB S i t).sh = S.sh ∧ (pncB S i t).mo = S.mo ∧ (pncB S i t).ba = S.ba ∧ (pncB S i t).ks = S.ks ∧ (pncB S i t).fl.length = S.fl.length := by
  unfold pncB
  refine ⟨rfl, rfl, rfl, rfl, rfl, ?_⟩
  show (match S.fl[i]? with | some f => S.fl.set i (pncF f t) | none => S.fl).length = _
  cases S.fl[i]? with
  | none => rfl
  | some f => simp
theorem nxt_same (S : Bsn) (i : Nat) (n : Int) : (nxtB S i n).res = S.res ∧ (nxtB S i n).sh = S.sh ∧ (nxtB S i n).mo = S.mo ∧ (nxtB S i n).ba = S.ba ∧ (nxtB S i n).ks = S.ks ∧ (nxtB S i n).fl.length = S.fl.length := by
  unfold nxtB
  refine ⟨rfl, rfl, rfl, rfl, rfl, ?_⟩
  show (match S.fl[i]? with | some f => S.fl.set i { f with nx := n } | none => S.fl).length = _
  cases S.fl[i]? with
  | none => rfl
  | some f => simp
theorem np_pou {S : Bsn} (h : npB S) (src : Int) (o : Op5) : npB (pouB S src o) := fun k hk => by
  obtain ⟨-, -, -, -, hb⟩ := pou_same S src o
  rw [hb]
  rcases (fold_mem _ _ _ _).1 hk with hk | hk
  · exact h k hk
  · have := (List.mem_filter.1 hk).2
    cases h2 : pasB S.ba k
    · rfl
    · rw [h2] at this; cases this
/-- What a row of steps keeps, and what it brings. -/
structure StK (S T : Bsn) : Prop where
  res : T.res = S.res
  sh : T.sh = S.sh
  mo : T.mo = S.mo
  ba : T.ba = S.ba
  fl : T.fl.length = S.fl.length
  ks : ∀ k ∈ S.ks, k ∈ T.ks
  np : npB S → npB T
theorem StK.refl (S : Bsn) : StK S S := ⟨rfl, rfl, rfl, rfl, rfl, fun _ h => h, fun h => h⟩
theorem StK.trans {S T U : Bsn} (h : StK S T) (k : StK T U) : StK S U := ⟨k.res.trans h.res, k.sh.trans h.sh, k.mo.trans h.mo, k.ba.trans h.ba, k.fl.trans h.fl, fun x hx => k.ks x (h.ks x hx), fun hn => k.np (h.np hn)⟩
theorem stk_pnc (S : Bsn) (i : Nat) (t : Int) : StK S (pncB S i t) := by
  obtain ⟨h1, h2, h3, h4, h5, h6⟩ := pnc_same S i t
  exact ⟨h1, h2, h3, h4, h6, fun k hk => by rw [h5]; exact hk, fun hn k hk => by rw [h4]; rw [h5] at hk; exact hn k hk⟩
theorem stk_nxt (S : Bsn) (i : Nat) (t : Int) : StK S (nxtB S i t) := by
  obtain ⟨h1, h2, h3, h4, h5, h6⟩ := nxt_same S i t
  exact ⟨h1, h2, h3, h4, h6, fun k hk => by rw [h5]; exact hk, fun hn k hk => by rw [h4]; rw [h5] at hk; exact hn k hk⟩
theorem stk_pou (S : Bsn) (src : Int) (o : Op5) : StK S (pouB S src o) := by
  obtain ⟨h1, h2, h3, h4, h5⟩ := pou_same S src o
  exact ⟨h1, h2, h3, h5, by rw [h4], fun k hk => (fold_mem _ _ _ _).2 (.inl hk), fun hn => np_pou hn src o⟩
theorem ids_stk {S T : Bsn} (h : StK S T) (o : Op5) : idsB T o = idsB S o := by unfold idsB; rw [h.res, h.sh, h.ba]
theorem stk_fold (i : Nat) : ∀ (l : List Op5) (S : Bsn), StK S (l.foldl (stpB i) (S, none)).1
  | [], S => StK.refl S
  | o :: l, S => by
    rw [List.foldl_cons]
    by_cases hk : o.k = 2
    · rw [stp_mark hk]
      exact (stk_pnc S i o.t).trans (stk_fold i l _)
    · cases hr : rooB S o
      · rw [stp_full hk hr, stp_stuck]
        exact StK.refl S
      · rw [stp_pour hk hr]
        exact (stk_pou S (i : Int) o).trans (stk_fold i l _)
/-- Every sample that was taken has all its cells. -/
theorem tak_there (i : Nat) : ∀ (l : List Op5) (S : Bsn), l.Pairwise (fun a b => a.s < b.s) → ∀ p ∈ l, p.k ≠ 2 → (∀ s, (l.foldl (stpB i) (S, none)).2 = some s → p.s < s) → ∀ k ∈ idsB S p, k ∈ (l.foldl (stpB i) (S, none)).1.ks
  | [], S, _, p, hp, _, _, _, _ => by cases hp
  | o :: l, S, hs, p, hp, hk2, hlt, k, hk => by
    obtain ⟨hs1, hs2⟩ := List.pairwise_cons.1 hs
    rw [List.foldl_cons] at hlt ⊢
    by_cases ho : o.k = 2
    · rw [stp_mark ho] at hlt ⊢
      rcases List.mem_cons.1 hp with rfl | hp
      · exact absurd ho hk2
      · exact tak_there i l _ hs2 p hp hk2 hlt k (by rw [ids_stk (stk_pnc S i o.t)]; exact hk)
    · cases hr : rooB S o
      · rw [stp_full ho hr, stp_stuck] at hlt
        have h1 := hlt o.s rfl
        rcases List.mem_cons.1 hp with rfl | hp
        · omega
        · have := hs1 p hp; omega
      · rw [stp_pour ho hr] at hlt ⊢
        rcases List.mem_cons.1 hp with rfl | hp
        · exact (stk_fold i l _).ks k ((fold_mem _ _ _ _).2 (.inr hk))
        · exact tak_there i l _ hs2 p hp hk2 hlt k (by rw [ids_stk (stk_pou S (i : Int) o)]; exact hk)
/-- The number at which it was full is one of the operations'. -/
theorem tak_some (i : Nat) : ∀ (l : List Op5) (S : Bsn) (s : Int), (l.foldl (stpB i) (S, none)).2 = some s → ∃ o ∈ l, o.s = s
  | [], S, s, h => by cases h
  | o :: l, S, s, h => by
    rw [List.foldl_cons] at h
    by_cases ho : o.k = 2
    · rw [stp_mark ho] at h
      obtain ⟨x, hx, e⟩ := tak_some i l _ s h
      exact ⟨x, by simp [hx], e⟩
    · cases hr : rooB S o
      · rw [stp_full ho hr, stp_stuck] at h
        cases h
        exact ⟨o, by simp, rfl⟩
      · rw [stp_pour ho hr] at h
        obtain ⟨x, hx, e⟩ := tak_some i l _ s h
        exact ⟨x, by simp [hx], e⟩
theorem drp_same (S : Bsn) : (drpB S).res = S.res ∧ (drpB S).sh = S.sh ∧ (drpB S).mo = S.mo ∧ (drpB S).ba = S.ba ∧ (drpB S).fl = S.fl := ⟨rfl, rfl, rfl, rfl, rfl⟩
/-- What Feed leaves. -/
structure FdK (S T : Bsn) (i : Nat) (fr la : Int) (ops : List Op5) (r : Option Int) : Prop where
  res : T.res = S.res
  sh : T.sh = S.sh
  mo : T.mo = S.mo
  fl : T.fl.length = S.fl.length
  np : npB T
  all : ∀ p ∈ ops, p.k ≠ 2 → (∀ s, r = some s → p.s < s) → ∀ k ∈ idL p.t p.y T.sh T.res, decide (k ∈ T.ks) = !pasB T.ba k
  nx : ∀ s, r = some s → nxOf T i = s ∧ fr ≤ s ∧ s ≤ la
theorem fd_kept {S : Bsn} {i : Nat} {fr la : Int} {cut : List (Int × Int)} {ops : List Op5} (hf : infO ops fr la) (hi : i < S.fl.length) : FdK S (fdZ S i la cut ops) i fr la ops (fdR S i cut ops).2 := by
  have h1 := stk_fold i ops (drpB (cutB S cut))
  have h2 := stk_nxt (fdR S i cut ops).1 i (tkN la (fdR S i cut ops))
  have h3 : StK (drpB (cutB S cut)) (fdZ S i la cut ops) := h1.trans h2
  have hnp : npB (fdZ S i la cut ops) := h3.np (np_drp _)
  refine ⟨h3.res, h3.sh, h3.mo, h3.fl, hnp, fun p hp hk hlt k hkm => ?_, fun s hs => ?_⟩
  · cases hpa : pasB (fdZ S i la cut ops).ba k
    · have hm : k ∈ idsB (drpB (cutB S cut)) p := by
        rw [← ids_stk h3]
        exact List.mem_filter.2 ⟨hkm, by rw [hpa]; rfl⟩
      have := h2.ks k (tak_there i ops _ hf.2 p hp hk hlt k hm)
      exact decide_eq_true this
    · apply decide_eq_false
      intro hm
      have := hnp k hm
      rw [hpa] at this
      cases this
  · have hl : i < (fdR S i cut ops).1.fl.length := by
      have := h1.fl
      show i < (takB (drpB (cutB S cut)) i ops).1.fl.length
      unfold takB
      rw [this]
      exact hi
    obtain ⟨o, ho, e⟩ := tak_some i ops _ s hs
    have hb := hf.1 o ho
    refine ⟨?_, by omega, by omega⟩
    unfold fdZ
    rw [nxtB_at _ (List.getElem?_eq_getElem hl)]
    unfold nxOf
    show (match ((fdR S i cut ops).1.fl.set i _)[i]? with | some f => f.nx | none => 0) = s
    rw [List.getElem?_set_self hl]
    show tkN la (fdR S i cut ops) = s
    unfold tkN
    rw [hs]
end Go.Proofs.Ytogbhiklhcibdaa
namespace Go.Proofs.Ytogbhiklhcibdaa
open Go.RowKit Go.Maps
set_option linter.unusedVariables false
set_option maxRecDepth 100000

def zFl : Flw := ⟨0, 0, false⟩
theorem eltFl : Try.prog.underlying 80 = some (.slice (Try.prog.elem 80)) := by kernel_rfl
theorem sizeFlw (w : World) : (sizeOf (Try.prog.elem 80)).run Try.prog w = .ok 3 w := by kernel_rfl
theorem infoFl3 : (Try.prog.info? 101).map (fun i => (i.zero, i.size, i.bytes)) = some (some (.agg #[.int .i64 0, .int .i64 0, .bool false]), 3, 24) := by kernel_rfl
theorem sizeFl3 : (Try.prog.info? 101).map (·.size) = some 3 := by kernel_rfl
theorem e3f_splice (p : Flw) (n m c : Nat) (h : n + m ≤ c) (z : Flw) : (E3f.fl (List.replicate n p ++ List.replicate (c - n) z)).take (n * 3) ++ E3f.fl (List.replicate m p) ++ (E3f.fl (List.replicate n p ++ List.replicate (c - n) z)).drop (n * 3 + m * 3) = E3f.fl (List.replicate (n + m) p ++ List.replicate (c - (n + m)) z) := by
  have h1 := E3f.fl_take (List.replicate n p ++ List.replicate (c - n) z) n
  have h2 := E3f.fl_drop (List.replicate n p ++ List.replicate (c - n) z) (n + m)
  rw [show (n + m) * E3f.k = n * 3 + m * 3 from Nat.add_mul n m 3] at h2
  rw [show n * E3f.k = n * 3 from rfl] at h1
  rw [h1, h2, ← E3f.fl_append, ← E3f.fl_append]
  congr 1
  have e : List.replicate (n + m) p = List.replicate n p ++ List.replicate m p := by simp
  rw [List.take_left' (by simp), e]
  congr 1
  rw [List.drop_append, List.drop_of_length_le (by simp), List.nil_append, List.length_replicate, List.drop_replicate]
  congr 1
  omega
set_option maxHeartbeats 2000000 in
theorem barep_any (p : Flw) (c : Nat) (g0 : Nat) (w : World) (h0 : 1 ≤ c) (hc : c ≤ 4) (hB : Blk w g0 (flA p) 101) :
    Calls Try.prog 36 #[.slice (some ⟨g0, 0, none⟩) 1 1, .int .i64 (c : Int)] w fun e w' => ∃ v, e = .returned v ∧ EO E3f 101 w' w.heap.size v (List.replicate c p) ∧ Below w.heap.size w w' := by
  have hci : (0 : Int) ≤ (c : Int) := by omega
  go_enter Try.func36, Try.ntmps36
  go_upto_region 6 with (go_at_call 52; refine (smul_any c (by omega) _).mono ?_; rintro e w ⟨rfl, rfl⟩)
  go_upto_region 7 with (refine mk_e (E := E3f) rfl zFl rfl Try.underlying80 infoFl3 rfl rfl rfl rfl (by omega) (by omega) ?_; intro W1 hB1 b1)
  have hs0 := hB.keep b1
  have hlen1 : (E3f.fl (List.replicate c zFl)).length = c * 3 := by rw [E3f.fl_len, List.length_replicate]; rfl
  have hr1 := fun ty => run_copy_rowK (P := Try.prog) W1 80 80 ty 101 3 w.heap.size 0 c c ⟨g0, 0, none⟩ 1 1 _ 101 (flA p).toList Try.underlying80 sizeFl3 hB1 (by rw [show Nat.min 1 c = 1 from Nat.min_eq_left h0]; rfl) (by
    intro j v hj
    rw [Addr.add_mid, Nat.zero_add, hs0.cell]; simpa using hj) (by simp [hlen1, flA]; omega) (by simp [flA, Value.oneCell'])
  have HE1 : Hid (E3f.fl (List.replicate c zFl) = E3f.fl (List.replicate c zFl)) := rfl
  have hx1 : ((E3f.fl (List.replicate c zFl)).toArray.toList.take 0 ++ (flA p).toList ++ (E3f.fl (List.replicate c zFl)).toArray.toList.drop (0 + (flA p).toList.length)) = E3f.fl (List.replicate 1 p ++ List.replicate (c - 1) zFl) := by
    have := e3f_splice p 0 1 c (by omega) zFl
    simpa [En.fl_one1, E3f, flA] using this
  rw [hx1, show Nat.min 1 c = 1 from Nat.min_eq_left h0] at hr1
  have hB2 : Blk (W1.setRow w.heap.size (E3f.fl (List.replicate 1 p ++ List.replicate (c - 1) zFl)).toArray) w.heap.size (E3f.fl (List.replicate 1 p ++ List.replicate (c - 1) zFl)).toArray 101 := blk_setRow hB1 _
  have C2 := chg_setRow W1 w.heap.size (E3f.fl (List.replicate 1 p ++ List.replicate (c - 1) zFl)).toArray
  clear hx1 HE1
  generalize W1.setRow w.heap.size (E3f.fl (List.replicate 1 p ++ List.replicate (c - 1) zFl)).toArray = W2 at *
  have b2 := ab_chg b1 C2 (Nat.le_refl _)
  go_upto_region 8 with (refine cp_l rfl rfl _ _ rfl rfl hr1 ?_)
  clear hr1 hB1 hs0 hB b1 C2 hlen1
  go_loopw [8] (fun n wr => ∃ k : Nat, 1 ≤ k ∧ k ≤ c ∧ n = .int .i64 (k : Int) ∧ Blk wr w.heap.size (E3f.fl (List.replicate k p ++ List.replicate (c - k) zFl)).toArray 101 ∧ Below w.heap.size w wr) (fun n _ => c - (intOf n).toNat)
  case atStart => exact ⟨1, Nat.le_refl _, h0, rfl, hB2, b2⟩
  case round =>
    clear hB2 b2
    obtain ⟨k, hk0, hk, rfl, hB, hb⟩ := hrel
    by_cases hkc : k = c
    · subst hkc
      rw [Nat.sub_self, List.replicate_zero, List.append_nil] at hB
      have HB : Hid (Blk wr w.heap.size (E3f.fl (List.replicate k p)).toArray 101) := hB
      clear hB
      go_wp2_with fail
      go_ret
      refine ⟨_, rfl, eo_of (n := k) (own_blkE HB.out (Nat.le_refl _) (by rw [E3f.fl_len, List.length_replicate]) (by unfold maxLen; omega)), hb⟩
    · have hki : (k : Int) < (c : Int) := by omega
      obtain ⟨m, hm⟩ : ∃ m, m = Nat.min k (c - k) := ⟨_, rfl⟩
      have hm1 : 1 ≤ m := by rw [hm]; exact Nat.le_min.2 ⟨hk0, by omega⟩
      have hm2 : m ≤ k := by rw [hm]; exact Nat.min_le_left _ _
      have hm3 : m ≤ c - k := by rw [hm]; exact Nat.min_le_right _ _
      obtain ⟨o', es, ho'⟩ := sliced_some w.heap.size 0 k c c 3
      have ho2 := ho' (by omega)
      rw [Nat.zero_add] at ho2
      subst ho2
      have hlen : (E3f.fl (List.replicate k p ++ List.replicate (c - k) zFl)).length = c * 3 := by
        rw [E3f.fl_len, List.length_append, List.length_replicate, List.length_replicate, show k + (c - k) = c by omega]; rfl
      have hr := fun (V : World) (hV : Blk V w.heap.size (E3f.fl (List.replicate k p ++ List.replicate (c - k) zFl)).toArray 101) ty => run_copy_rowK (P := Try.prog) V 80 80 ty 101 3 w.heap.size (k * 3) (c - k) (c - k) ⟨w.heap.size, 0, none⟩ k c _ 101 (E3f.fl (List.replicate m p)) Try.underlying80 sizeFl3 hV (by rw [← hm, E3f.fl_len, List.length_replicate]; rfl) (by
        intro j v hj
        have hj2 := (List.getElem?_eq_some_iff.1 hj).1
        have e : E3f.fl (List.replicate k p ++ List.replicate (c - k) zFl) = E3f.fl (List.replicate m p) ++ E3f.fl (List.replicate (k - m) p ++ List.replicate (c - k) zFl) := by
          rw [← E3f.fl_append, ← List.append_assoc]
          congr 2
          rw [List.replicate_append_replicate]; congr 1; omega
        rw [Addr.add_mid, Nat.zero_add, hV.cell, e]
        simp only [List.getElem?_toArray]
        rw [List.getElem?_append_left hj2]
        exact hj) (by simp only [List.size_toArray]; rw [hlen, E3f.fl_len, List.length_replicate]; show k * 3 + m * 3 ≤ c * 3; omega) (E3f.fl_cell _)
      rw [← hm] at hr
      have hsp := e3f_splice p k m c (by omega) zFl
      simp only [E3f.fl_len, List.length_replicate, show E3f.k = 3 from rfl] at hr
      rw [hsp] at hr
      clear hsp hlen hm ho'
      go_upto_region 9 with fail
      refine wp_region_held_drew (S := fun _ => True) (by kernel_rfl) trivial (fun hHeld => ?_)
      have hBV : Blk wr.drew w.heap.size (E3f.fl (List.replicate k p ++ List.replicate (c - k) zFl)).toArray 101 := hB
      have hbV : Below w.heap.size w wr.drew := ab_drew hb
      generalize wr.drew = V at *
      refine takeH (i := 0) (some 38) rfl rfl (by kernel_rfl) (by kernel_rfl) (by kernel_rfl) (fun _ _ _ h => h) (by rfl) (fun w hSw => by (try dsimp only at hSw); go_simp; try rfl) hHeld ?_
      go_frame
      refine takeH (i := 1) (some 39) rfl rfl (by kernel_rfl) (by kernel_rfl) (by kernel_rfl) (fun _ _ _ h => h) (by rfl) (fun w hSw => by (try dsimp only at hSw); go_simp; try rfl) hHeld ?_
      go_frame
      refine takeH (i := 2) (some 40) rfl rfl (by kernel_rfl) (by kernel_rfl) (by kernel_rfl) (fun _ _ _ h => h) (by rfl) (fun w hSw => by (try dsimp only at hSw); go_simp; try rfl) hHeld ?_
      go_frame
      refine takeH (i := 3) (some 41) rfl rfl (by kernel_rfl) (by kernel_rfl) (by kernel_rfl) (fun _ _ _ h => h) (by rfl) (fun w hSw => by (try dsimp only at hSw); (exact slo_l (x := .tmp 39) (y := .tmp 40) rfl rfl rfl rfl eltFl (sizeFlw _) (by omega) (by omega) es)) hHeld ?_
      go_frame
      refine takeH (i := 4) (some 42) rfl rfl (by kernel_rfl) (by kernel_rfl) (by kernel_rfl) (fun _ _ _ h => h) (by rfl) (fun w hSw => by (try dsimp only at hSw); go_simp; try rfl) hHeld ?_
      go_frame
      refine takeH (i := 5) (some 43) rfl rfl (by kernel_rfl) (by kernel_rfl) (by kernel_rfl) (fun _ _ _ h => h) (by rfl) (fun w hSw => by (try dsimp only at hSw); go_simp; try rfl) hHeld ?_
      go_frame
      refine takeH (i := 6) (some 44) rfl rfl (by kernel_rfl) (by kernel_rfl) (by kernel_rfl) (fun _ _ _ h => h) (by rfl) (fun w hSw => by (try dsimp only at hSw); (exact slo_h (x := .tmp 42) (z := .tmp 43) rfl rfl rfl rfl eltFl (sizeFlw _) (by omega))) hHeld ?_
      go_frame
      refine wpAnyH_ready (rs := [7]) (by kernel_rfl) (by simp) (AllReadyH.cons rfl (fun K hK => ?_) AllReadyH.nil)
      rw [if_pos (by rfl)]
      refine cpW (some 45) rfl rfl _ _ rfl rfl (hr V hBV) ?_
      have hB2 : Blk (V.setRow w.heap.size (E3f.fl (List.replicate (k + m) p ++ List.replicate (c - (k + m)) zFl)).toArray) w.heap.size (E3f.fl (List.replicate (k + m) p ++ List.replicate (c - (k + m)) zFl)).toArray 101 := blk_setRow hBV _
      have b2 := ab_chg hbV (chg_setRow V w.heap.size (E3f.fl (List.replicate (k + m) p ++ List.replicate (c - (k + m)) zFl)).toArray) (Nat.le_refl _)
      refine hK.out _ _ trivial (fun hHeld => ?_)
      clear hK K hr hBV hbV
      generalize V.setRow w.heap.size (E3f.fl (List.replicate (k + m) p ++ List.replicate (c - (k + m)) zFl)).toArray = W2 at *
      have hadd1 : IntKind.i64.wrap ((k : Int) + (m : Int)) = (k : Int) + (m : Int) := by simp [IntKind.wrap, IntKind.signed, IntKind.bits] <;> omega
      go_frame
      refine takeH (i := 8) (some 46) rfl rfl (by kernel_rfl) (by kernel_rfl) (by kernel_rfl) (fun _ _ _ h => h) (by rfl) (fun w hSw => by (try dsimp only at hSw); go_simp; try rfl) hHeld ?_
      go_frame
      refine takeH (i := 9) (some 8) rfl rfl (by kernel_rfl) (by kernel_rfl) (by kernel_rfl) (fun _ _ _ h => h) (by rfl) (fun w hSw => by (try dsimp only at hSw); go_simp; try rfl) hHeld ?_
      go_frame
      refine wpAnyH_done (by kernel_rfl) ?_ _
      go_wp2_with fail
      exact ⟨⟨k + m, by omega, by omega, by rw [Int.natCast_add], hB2, b2⟩, by simp only [intOf]; omega⟩
theorem newOK_iff {n : Int} {res : List Int} {sh mo : Int} : newOK n res sh mo = true ↔ (1 ≤ n ∧ n ≤ 4) ∧ goodR res sh = true ∧ (1 ≤ mo ∧ mo ≤ 1024) := by
  unfold newOK
  simp only [Bool.and_eq_true, decide_eq_true_eq]
  constructor
  · rintro ⟨⟨a, b⟩, c⟩; exact ⟨a, b, c⟩
  · rintro ⟨a, b, c⟩; exact ⟨⟨a, b⟩, c⟩
theorem okb_new {n : Nat} {res : List Int} {sh mo : Int} (h : newOK (n : Int) res sh mo = true) (hr : ∀ r ∈ res, r ≤ 9223372036854775807) : Okb (newBsn n res sh mo) := by
  obtain ⟨a, b, c⟩ := newOK_iff.1 h
  obtain ⟨b1, b2, b3⟩ := goodR_iff.1 b
  refine ⟨b2.1, b2.2, fun r h => ⟨b1 r h, hr r h⟩, b3.1, b3.2, c.1, c.2, ?_, ?_, ?_, ?_, ?_, List.nodup_nil, ?_, fun k h => (by cases h), fun k => wf_zc, fun k _ => rfl⟩
  · show 1 ≤ (List.replicate n newFl).length; rw [List.length_replicate]; omega
  · show (List.replicate n newFl).length ≤ 4; rw [List.length_replicate]; omega
  · intro f hf
    have := List.eq_of_mem_replicate hf
    subst this
    unfold newFl J64; dsimp only; omega
  · show ((List.replicate (res.length * sh.toNat) lstP).length : Int) = (res.length : Int) * sh
    rw [List.length_replicate, Int.natCast_mul, Int.toNat_of_nonneg (by omega)]
  · intro p hp
    have := List.eq_of_mem_replicate hp
    subst this
    unfold lstP J64; dsimp only; omega
  · show ((0 : Nat) : Int) ≤ mo; omega
theorem banew_no (n : Int) (v : Value) (res : List Int) (sh mo : Int) (w : World) (hv : Is w v res) (h : newOK n res sh mo = false) :
    Calls Try.prog 15 #[.int .i64 n, v, .int .i64 sh, .int .i64 mo] w fun e w' => e = .returned (.tuple #[.pointer none, Err 2]) ∧ w' = w := by
  obtain ⟨q, cap, hf⟩ := hv.form
  have HG := bgood_any v res sh w hv
  rw [hf] at HG ⊢
  generalize res.length = k at *
  have HN : Hid (newOK n res sh mo = false) := h
  clear h hv hf
  cases a1 : wiB n 4
  · go_enter Try.func15, Try.ntmps15
    go_wp2_with (go_at_call 34; refine (bwithin_any _ _ _).mono ?_; rintro e w ⟨rfl, rfl⟩; rw [a1])
    go_ret2
    exact ⟨rfl, rfl⟩
  · cases a2 : goodR res sh
    · rw [a2] at HG
      go_enter Try.func15, Try.ntmps15
      go_wp2_with (first
        | (go_at_call 34; refine (bwithin_any _ _ _).mono ?_; rintro e w ⟨rfl, rfl⟩; rw [a1])
        | (go_at_call 35; refine HG.mono ?_; rintro e w ⟨rfl, rfl⟩))
      go_ret2
      exact ⟨rfl, rfl⟩
    · have a3 : wiB mo 1024 = false := by
        cases hh : wiB mo 1024
        · rfl
        · have h1 := HN.out
          have : newOK n res sh mo = true := newOK_iff.2 ⟨of_decide_eq_true a1, a2, of_decide_eq_true hh⟩
          rw [this] at h1; cases h1
      rw [a2] at HG
      go_enter Try.func15, Try.ntmps15
      go_wp2_with (first
        | (go_at_call 34; refine (bwithin_any _ _ _).mono ?_; rintro e w ⟨rfl, rfl⟩; first | rw [a1] | rw [a3])
        | (go_at_call 35; refine HG.mono ?_; rintro e w ⟨rfl, rfl⟩))
      go_ret2
      exact ⟨rfl, rfl⟩
theorem bsv_l {P : Program} {ops : Array Oper} {rest : List Oper} {o : Oper} {a : Act} {w : World} {Q : Exit → Act → World → Prop} (hw : Region.wanted o (yielded ops a.tmps) = true) {t : TypeId} {n : Nat} {parts : Array (Nat × Operand)} (ho : o.op = .buildSlice t n parts) {L : Array (Nat × Value)} (hl : parts.map (fun (i, x) => (i, a.eval x)) = L) {v : Value} {w' : World}
    (hr : (Instr.buildSlice t n L).run P w = .ok v w') (h : wpList P ops Q rest (a.put o.dst v) w') : wpList P ops Q (o :: rest) a w := by
  unfold wpList
  rw [if_pos hw]
  left
  unfold Oper.wp execOp
  simp only [ho, Sem.run_bind, hl, hr, Result.andThen_ok]
  exact h
theorem bfl1 (w : World) : (Instr.buildSlice 80 1 #[(0, .agg #[.int .i64 1, .int .i64 0, .bool false])]).run Try.prog w = .ok (.slice (some ⟨w.heap.size, 0, none⟩) 1 1) (w.alloc (.cells #[.int .i64 1, .int .i64 0, .bool false] 101)) := by kernel_rfl
theorem bapl1 (x y : Int) (w : World) : (Instr.buildSlice 73 1 #[(0, .agg #[.int .i64 x, .int .i64 y])]).run Try.prog w = .ok (.slice (some ⟨w.heap.size, 0, none⟩) 1 1) (w.alloc (.cells #[.int .i64 x, .int .i64 y] 24)) := by kernel_rfl
theorem built_fl : Try.prog.built 101 [(0, .int .i64 1)] = some #[.int .i64 1, .int .i64 0, .bool false] := by kernel_rfl
theorem built_bs (q : Option Addr) (k c : Nat) (sh mo : Int) (g1 n1 c1 g2 n2 c2 m : Nat) : Try.prog.built 83 [(0, .slice q k c), (1, .int .i64 sh), (2, .int .i64 mo), (3, .slice (some ⟨g1, 0, none⟩) n1 c1), (4, .slice (some ⟨g2, 0, none⟩) n2 c2), (5, .map (some m))] = some #[.slice q k c, .int .i64 sh, .int .i64 mo, .slice (some ⟨g1, 0, none⟩) n1 c1, .slice (some ⟨g2, 0, none⟩) n2 c2, .map (some m)] := by kernel_rfl
/-- What New answers, where all is in form. -/
def NewE (e : Ending) (W : World) (B : Nat) (S : Bsn) : Prop := ∃ K : Bkk, e = .returned (.tuple #[bptr K, .nilIface]) ∧ Bq W B K S
set_option maxHeartbeats 1000000 in
theorem banew_ok (n : Nat) (v : Value) (res : List Int) (sh mo : Int) (w : World) (hv : Is w v res) (hr : ∀ r ∈ res, r ≤ 9223372036854775807) (h : newOK (n : Int) res sh mo = true) :
    Calls Try.prog 15 #[.int .i64 (n : Int), v, .int .i64 sh, .int .i64 mo] w fun e w' => NewE e w' w.heap.size (newBsn n res sh mo) ∧ Below w.heap.size w w' := by
  obtain ⟨q, cap, hf⟩ := hv.form
  obtain ⟨h1, h2, h3⟩ := newOK_iff.1 h
  obtain ⟨b1, b2, b3⟩ := goodR_iff.1 h2
  have HG := bgood_any v res sh w hv
  have HO := okb_new h hr
  have a1 : wiB (n : Int) 4 = true := decide_eq_true h1
  have a3 : wiB mo 1024 = true := decide_eq_true h3
  obtain ⟨sn, hsn⟩ : ∃ sn : Nat, sh = (sn : Int) := ⟨sh.toNat, by omega⟩
  have hcl : res.length * sn ≤ 12 := by have := Nat.mul_le_mul b2.2 (show sn ≤ 4 by omega); omega
  have hcl1 : 1 ≤ res.length * sn := by have := Nat.mul_le_mul b2.1 (show 1 ≤ sn by omega); omega
  have HM : Hid ((res.length : Int) * sh = ((res.length * sn : Nat) : Int)) := by show _ = _; rw [hsn, Int.natCast_mul]
  have hmul := HM.out
  have HTn : Hid (res.length * sh.toNat = res.length * sn) := by show _ = _; rw [hsn, Int.toNat_natCast]
  have hn1 : 1 ≤ n := by omega
  have hn4 : n ≤ 4 := by omega
  have hk3 : res.length ≤ 3 := b2.2
  have HV := hv
  rw [h2] at HG
  rw [hf] at HG HV ⊢
  clear hv hf h1 h3 h b1 b2 b3 hr
  generalize hkr : res.length = k at *
  generalize hcc : k * sn = c at *
  have HKR : Hid (res.length = k) := hkr
  have HNB : Hid (newBsn n res sh mo = ⟨res, sh, mo, List.replicate n newFl, List.replicate c lstP, [], fun _ => zc⟩) := by
    show _ = _
    unfold newBsn
    rw [hkr, HTn.out]
  have HOK : Hid (Okb (newBsn n res sh mo)) := HO
  have hmm := @run_makeMap Try.prog
  clear hsn hcc hmul h2 hkr HO
  go_enter Try.func15, Try.ntmps15
  go_upto_region 3 with (first
    | (go_at_call 34; refine (bwithin_any _ _ _).mono ?_; rintro e w ⟨rfl, rfl⟩; first | rw [a1] | rw [a3])
    | (go_at_call 35; refine HG.mono ?_; rintro e w ⟨rfl, rfl⟩))
  refine wp_region_lit ?_
  refine valS rfl (.slice q k cap) rfl ?_
  refine app_i w rfl rfl (l := []) (m := res) rfl (World.ownsRow_nil _ _ _ _) rfl HV rfl (by have := HKR.out; omega) (Below.refl _ _) ?_
  intro v' W1 hown hnil b1 hg1 hat
  have hO := io_of hown
  obtain ⟨q1, cap1, rfl⟩ := hO.is.form
  have HO1 : Hid (Io W1 w.heap.size (.slice q1 k cap1) res) := by
    have : Io W1 w.heap.size (.slice q1 res.length cap1) res := hO
    rw [HKR.out] at this
    exact this
  clear hnil hg1 hat hown hO HG HV
  have hkr2 : ([] ++ res : List Int).length = k := HKR.out
  rw [hkr2]
  clear hkr2
  go_frame
  refine valS rfl (.int .i64 sh) rfl ?_
  go_frame
  refine valS rfl (.int .i64 mo) rfl ?_
  go_frame
  refine valS rfl _ (bd_run rfl built_fl (by simp only [List.map_toArray, List.map_cons, List.map_nil]; rfl) _) ?_
  go_frame
  refine bsv_l rfl rfl (by simp only [List.map_toArray, List.map_cons, List.map_nil]; rfl) (bfl1 _) ?_
  obtain ⟨W2, hE2, hX2, b2⟩ := blk1 W1 #[.int .i64 1, .int .i64 0, .bool false] 101
  rw [hE2]
  clear hE2
  go_frame
  go_wp2_with (first
    | (go_at_call 36; refine (barep_any newFl n _ _ hn1 hn4 hX2).mono ?_; rintro e W3 ⟨v3, rfl, hO3, b3⟩; obtain ⟨g3, cap3, rfl⟩ := EO.at0 hO3 (by rw [List.length_replicate]; omega); rw [List.length_replicate]; go_frame)
    | (go_at_call 38; refine (least_any _).mono ?_; rintro e W4 ⟨rfl, b4⟩; go_frame))
  have hwr : wrap64 ((k : Int) * sh) = (c : Int) := by rw [HM.out]; unfold wrap64; omega
  rw [hwr]
  clear hwr
  obtain ⟨W5, hE5, hX5, b5⟩ := blk1 W4 #[.int .i64 (-9223372036854775808), .int .i64 (-9223372036854775808)] 24
  rw [hE5]
  clear hE5
  refine (srepeat_any lstP c _ _ hcl1 hcl hX5).mono ?_
  rintro e W6 ⟨v6, rfl, hO6, b6⟩
  obtain ⟨g6, cap6, rfl⟩ := EO.at0 hO6 (by rw [List.length_replicate]; omega)
  rw [List.length_replicate]
  have b12 := ab_trans b1 b2
  have b13 := ab_trans b12 b3
  have b14 := ab_trans b13 b4
  have b15 := ab_trans b14 b5
  have b16 := ab_trans b15 b6
  have HIo : Hid (Io W6 w.heap.size (.slice q1 k cap1) res) := HO1.out.keep (ab_trans (ab_trans (ab_trans (ab_trans b2 b3) b4) b5) b6)
  have hR3 := (EO.rw hO3).1
  have hG3 := (EO.rw hO3).2
  have HR3 : Hid (Rw E3f 101 W6 g3 cap3 (List.replicate n newFl) ∧ w.heap.size ≤ g3) := ⟨hR3.keep (ab_trans (ab_trans b4 b5) b6), Nat.le_trans b12.size hG3⟩
  have HR6 : Hid (Rw E2 24 W6 g6 cap6 (List.replicate c lstP) ∧ w.heap.size ≤ g6) := ⟨(EO.rw hO6).1, Nat.le_trans b15.size (EO.rw hO6).2⟩
  have HB : Hid (Below w.heap.size w W6) := b16
  clear hO3 hO6 hR3 hG3 b1 b2 b3 b4 b5 b6 b12 b13 b14 b15 b16 hX2 hX5 HO1
  go_wp2_with fail
  go_ret2
  have bM : Below W6.heap.size W6 (W6.alloc (.map #[] 0)) := ab_alloc (Below.refl _ _) _
  have bC : Below W6.heap.size W6 ((W6.alloc (.map #[] 0)).alloc (.cells #[.slice q1 k cap1, .int .i64 sh, .int .i64 mo, .slice (some ⟨g3, 0, none⟩) n cap3, .slice (some ⟨g6, 0, none⟩) c cap6, .map (some W6.heap.size)] 83)) := ab_alloc bM _
  have hsz : (W6.alloc (.map #[] 0)).heap.size = W6.heap.size + 1 := by simp
  have hBk := Blk.new (W6.alloc (.map #[] 0)) #[.slice q1 k cap1, .int .i64 sh, .int .i64 mo, .slice (some ⟨g3, 0, none⟩) n cap3, .slice (some ⟨g6, 0, none⟩) c cap6, .map (some W6.heap.size)] 83
  rw [hsz] at hBk
  have hCm := (cm_new W6 (fun _ => zc)).keep (ab_alloc (Below.refl _ _) (.cells #[.slice q1 k cap1, .int .i64 sh, .int .i64 mo, .slice (some ⟨g3, 0, none⟩) n cap3, .slice (some ⟨g6, 0, none⟩) c cap6, .map (some W6.heap.size)] 83))
  have hok := HOK.out
  rw [HNB.out] at hok ⊢
  have hB6 := HB.out.size
  refine ⟨⟨⟨W6.heap.size + 1, W6.heap.size, g3, cap3, g6, cap6, .slice q1 k cap1⟩, rfl, ⟨?_, by show w.heap.size ≤ W6.heap.size + 1; omega, HIo.out.keep bC, HR3.out.1.keep bC, HR3.out.2, HR6.out.1.keep bC, HR6.out.2, hCm, hB6, hok⟩⟩, ab_trans HB.out bC⟩
  show Blk _ (W6.heap.size + 1) (bsC _ sh mo (List.replicate n newFl).length (List.replicate c lstP).length) _
  rw [List.length_replicate, List.length_replicate]
  exact hBk
end Go.Proofs.Ytogbhiklhcibdaa
namespace Go.Proofs.Ytogbhiklhcibdaa
open Go.RowKit Go.Maps
set_option linter.unusedVariables false
set_option maxRecDepth 100000

def lmK (l : List Flw) : Int := l.foldl (fun a f => min a f.mt) 9223372036854775807
theorem lmK_snoc {l : List Flw} {k : Nat} {f : Flw} (h : l[k]? = some f) : lmK (l.take (k + 1)) = min (lmK (l.take k)) f.mt := by
  unfold lmK
  rw [List.take_add_one, h]
  simp only [Option.toList_some, List.foldl_append, List.foldl_cons, List.foldl_nil]
theorem lmK_J : ∀ (l : List Flw) (a : Int), J64 a → (∀ f ∈ l, J64 f.mt) → J64 (l.foldl (fun a f => min a f.mt) a)
  | [], a, h, _ => h
  | f :: l, a, h, hl => lmK_J l _ (by have := hl f (by simp); unfold J64 at *; dsimp only; omega) (fun g hg => hl g (by simp [hg]))
/-- What leastMark answers. -/
def lmB (l : List Flw) : Bool := l.all fun f => f.md
def lmV (l : List Flw) : Int := if lmB l = true then lmK l else 0
theorem lmV_yes {l : List Flw} (h : lmB l = true) : lmV l = lmK l := by unfold lmV; rw [if_pos h]
theorem lmV_no {l : List Flw} (h : lmB l = false) : lmV l = 0 := by unfold lmV; rw [if_neg (by rw [h]; simp)]
set_option maxHeartbeats 1000000 in
theorem baleast_any {B : Nat} {K : Bkk} {S : Bsn} (w : World) (h : Bq w B K S) : Calls Try.prog 44 #[bptr K] w fun e w' => e = .returned (.tuple #[.int .i64 (lmV S.fl), .bool (lmB S.fl)]) ∧ Below w.heap.size w w' := by
  obtain ⟨-, -, -, c3, -, -⟩ := h.cells w (Below.refl _ _)
  have HC : Hid (∀ V k f, Below w.heap.size w V → S.fl[k]? = some f → V.cell? ⟨K.gf, k * 3, none⟩ = some (.int .i64 f.nx) ∧ V.cell? ⟨K.gf, k * 3 + 1, none⟩ = some (.int .i64 f.mt) ∧ V.cell? ⟨K.gf, k * 3 + 2, none⟩ = some (.bool f.md)) := fun V k f hb hf => ⟨(h.keep hb).fe.cell (i := 0) hf rfl, (h.keep hb).fe.cell (i := 1) hf rfl, (h.keep hb).fe.cell (i := 2) hf rfl⟩
  have HJ : Hid (∀ f ∈ S.fl, J64 f.mt) := fun f hf => (h.ok.ff f hf).2
  have hn4 := h.ok.f1
  clear h
  generalize hl : S.fl = l at *
  clear hl
  generalize hn : l.length = n at *
  obtain ⟨b, m, gf, cf, gb, cb, vr⟩ := K
  try dsimp only at *
  go_enter Try.func44, Try.ntmps44
  go_wp2_with fail
  go_loopw [4, 12] (fun x z wr => ∃ k : Nat, k ≤ n ∧ z = .int .i64 (k : Int) ∧ x = .int .i64 (lmK (l.take k)) ∧ (∀ f ∈ l.take k, f.md = true) ∧ Below w.heap.size w wr) (fun _ z _ => n - (intOf z).toNat)
  case atStart => exact ⟨0, by omega, rfl, rfl, fun f hf => by simp at hf, Below.refl _ _⟩
  case round =>
    obtain ⟨k, hk, rfl, rfl, hall, hw⟩ := hrel
    by_cases c : k = n
    · subst c
      rw [List.take_of_length_le (by omega)] at hall ⊢
      have HB : Hid (lmB l = true) := by show _ = _; unfold lmB; rw [List.all_eq_true]; exact hall
      have HV : Hid (lmV l = lmK l) := lmV_yes HB.out
      clear hall
      generalize lmK l = x at *
      go_wp2_with fail
      go_ret2
      exact ⟨by rw [HB.out, HV.out]; rfl, hw⟩
    · obtain ⟨f, hf⟩ : ∃ f, l[k]? = some f := ⟨l[k], List.getElem?_eq_getElem (by omega)⟩
      obtain ⟨z0, z1, z2⟩ := HC.out _ k f hw hf
      have hki : (k : Int) < (n : Int) := by omega
      have HN : Hid (lmK (l.take (k + 1)) = min (lmK (l.take k)) f.mt) := lmK_snoc hf
      have HA : Hid (f.md = true → ∀ g ∈ l.take (k + 1), g.md = true) := by
        intro hm g hg
        rw [List.take_add_one, hf] at hg
        rcases List.mem_append.1 hg with hg | hg
        · exact hall g hg
        · simp at hg; subst hg; exact hm
      have HF : Hid (f.md = false → lmB l = false) := by
        intro hm
        cases hh : lmB l
        · rfl
        · unfold lmB at hh
          rw [List.all_eq_true] at hh
          have := hh f (List.mem_of_getElem? hf)
          rw [hm] at this; cases this
      have hj1 := HJ.out f (List.mem_of_getElem? hf)
      have hj2 : J64 (lmK (l.take k)) := lmK_J _ _ (by unfold J64; omega) (fun g hg => HJ.out g (List.mem_of_mem_take hg))
      generalize lmK (l.take k) = x at *
      obtain ⟨A, hE, hX, hwA⟩ := blk1 wr (flA f) 101
      have y1 : A.cell? ⟨wr.heap.size, 1, none⟩ = some (.int .i64 f.mt) := hX.at rfl
      have y2 : A.cell? ⟨wr.heap.size, 2, none⟩ = some (.bool f.md) := hX.at rfl
      unfold flA at hE
      clear hf hall HC
      unfold J64 at hj1 hj2
      go_upto_region 5 with fail
      clear hE z0 z1 z2
      cases hm : f.md
      · have HB := HF.out hm
        have HB' : Hid (lmB l = false) := HB
        have HV : Hid (lmV l = 0) := lmV_no HB
        rw [hm] at y2
        clear HB
        go_wp2_with fail
        go_ret2
        exact ⟨by rw [HB'.out, HV.out]; rfl, ab_trans hw hwA⟩
      · have HA' : Hid (∀ g ∈ l.take (k + 1), g.md = true) := HA.out hm
        rw [hm] at y2
        go_wp2_with fail
        go_roundw
        case rel => exact ⟨k + 1, by omega, by go_num, by rw [HN.out], HA'.out, ab_trans hw hwA⟩
        case measure => simp [intOf]; omega
/-- What Closed answers. -/
def clsP (S : Bsn) (i : Nat) : Int × Int := if lmB S.fl = true then (flD (lmV S.fl) ((S.res[i / S.sh.toNat]?).getD 0), -9223372036854775808) else (0, 0)
theorem clsP_no {S : Bsn} {i : Nat} (h : lmB S.fl = false) : clsP S i = (0, 0) := by unfold clsP; rw [if_neg (by rw [h]; simp)]
theorem clsP_yes {S : Bsn} {i : Nat} {r : Int} (h : lmB S.fl = true) (hr : S.res[i / S.sh.toNat]? = some r) : clsP S i = (flD (lmV S.fl) r, -9223372036854775808) := by unfold clsP; rw [if_pos h, hr]; rfl
theorem lmV_J {S : Bsn} (h : Okb S) : J64 (lmV S.fl) := by
  unfold lmV
  split
  · exact lmK_J _ _ (by unfold J64; omega) (fun g hg => (h.ff g hg).2)
  · unfold J64; omega
set_option maxHeartbeats 1000000 in
theorem baclosed_no {B : Nat} {K : Bkk} {S : Bsn} (n : Int) (w : World) (h : Bq w B K S) (hn : hasN n S.ba.length = false) :
    Calls Try.prog 23 #[bptr K, .int .i64 n] w fun e w' => e = .returned (.tuple #[Plc 0 0, .bool false]) ∧ Below w.heap.size w w' := by
  obtain ⟨A, hE, hX, hw⟩ := blk1 w #[.int .i64 0, .int .i64 0] 24
  have HS := bhasL_any n A (h.keep hw)
  rw [hn] at HS
  clear h hn
  obtain ⟨b, m, gf, cf, gb, cb, vr⟩ := K
  try dsimp only at *
  go_enter Try.func23, Try.ntmps23
  go_upto_region 2 with (go_at_call 22; refine HS.mono ?_; rintro e W ⟨rfl, rfl⟩)
  clear hE
  go_wp2_with (refine st_blk rfl rfl hX rfl rfl info_plc rfl (by simp [Value.oneCell']) ?_; intro W2 hX2 C2)
  exact bodyPost_ret (results_c2 rfl _ _ _ 24 _ (0, 0) _ _ rfl rfl hX2 Try.underlying24 rfl info_plc) rfl ⟨rfl, ab_chg hw C2 (Nat.le_refl _)⟩
theorem baclosed_nil (n : Int) (w : World) :
    Calls Try.prog 23 #[.pointer none, .int .i64 n] w fun e w' => e = .returned (.tuple #[Plc 0 0, .bool false]) ∧ Below w.heap.size w w' := by
  obtain ⟨A, hE, hX, hw⟩ := blk1 w #[.int .i64 0, .int .i64 0] 24
  go_enter Try.func23, Try.ntmps23
  go_upto_region 2 with (go_at_call 22; refine (bhasL_nil _ _).mono ?_; rintro e W ⟨rfl, rfl⟩)
  clear hE
  go_wp2_with (refine st_blk rfl rfl hX rfl rfl info_plc rfl (by simp [Value.oneCell']) ?_; intro W2 hX2 C2)
  exact bodyPost_ret (results_c2 rfl _ _ _ 24 _ (0, 0) _ _ rfl rfl hX2 Try.underlying24 rfl info_plc) rfl ⟨rfl, ab_chg hw C2 (Nat.le_refl _)⟩
set_option maxHeartbeats 2000000 in
theorem baclosed_at {B : Nat} {K : Bkk} {S : Bsn} (i : Nat) (w : World) (h : Bq w B K S) (hi : i < S.ba.length) :
    Calls Try.prog 23 #[bptr K, .int .i64 (i : Int)] w fun e w' => e = .returned (.tuple #[Plc (clsP S i).1 (clsP S i).2, .bool (lmB S.fl)]) ∧ Below w.heap.size w w' := by
  obtain ⟨A, hE, hX, hw⟩ := blk1 w #[.int .i64 0, .int .i64 0] 24
  have hA := h.keep hw
  have HS := bhasL_any (i : Int) A hA
  have hh : hasN (i : Int) S.ba.length = true := decide_eq_true (by omega)
  have HLm := baleast_any A hA
  rw [hh] at HS
  cases hb : lmB S.fl
  · rw [hb] at HLm
    rw [lmV_no hb] at HLm
    have HP : Hid (clsP S i = (0, 0)) := clsP_no hb
    rw [HP.out]
    clear h hA hh
    obtain ⟨b, m, gf, cf, gb, cb, vr⟩ := K
    try dsimp only at *
    go_enter Try.func23, Try.ntmps23
    go_upto_region 5 with (first
      | (go_at_call 22; refine HS.mono ?_; rintro e A ⟨rfl, rfl⟩)
      | (go_at_call 44; refine HLm.mono ?_; rintro e W3 ⟨rfl, b3⟩))
    clear hE
    have hX3 := hX.keep b3
    go_wp2_with (refine st_blk rfl rfl hX3 rfl rfl info_plc rfl (by simp [Value.oneCell']) ?_; intro W2 hX2 C2)
    exact bodyPost_ret (results_c2 rfl _ _ _ 24 _ (0, 0) _ _ rfl rfl hX2 Try.underlying24 rfl info_plc) rfl ⟨rfl, ab_chg (ab_trans hw b3) C2 (Nat.le_refl _)⟩
  · rw [hb] at HLm
    obtain ⟨sn, hsn⟩ : ∃ sn : Nat, S.sh = (sn : Int) := ⟨S.sh.toNat, by have := h.ok.s0; omega⟩
    have hs1 : 1 ≤ sn := by have := h.ok.s0; omega
    have hs4 : sn ≤ 4 := by have := h.ok.s1; omega
    have hil : i < S.res.length * sn := by
      have h1 := h.ok.bl
      rw [hsn, ← Int.natCast_mul] at h1
      omega
    have hj : i / sn < S.res.length := Nat.div_lt_of_lt_mul (by rwa [Nat.mul_comm])
    obtain ⟨r, hr⟩ : ∃ r, S.res[i / sn]? = some r := ⟨S.res[i / sn], List.getElem?_eq_getElem hj⟩
    have HP : Hid (clsP S i = (flD (lmV S.fl) r, -9223372036854775808)) := clsP_yes hb (by rw [hsn, Int.toNat_natCast]; exact hr)
    have hr2 := (h.ok.rr r (List.mem_of_getElem? hr)).2
    have hmJ := lmV_J h.ok
    rw [HP.out]
    dsimp only
    obtain ⟨q, cap, g, off, he, hc, hm, hp, hg, hrow⟩ := hA.re.is
    obtain rfl := hp (Nat.lt_of_le_of_lt (Nat.zero_le _) hj)
    have HC : Hid (∀ V, Below A.heap.size A V → V.cell? ⟨K.b, 0, none⟩ = some (.slice (some ⟨g, off, none⟩) S.res.length cap) ∧ V.cell? ⟨K.b, 1, none⟩ = some (.int .i64 (sn : Int)) ∧ V.cell? ⟨g, off + i / sn, none⟩ = some (.int .i64 r)) := fun V hb => by
      obtain ⟨c0, c1, -⟩ := hA.cells V hb
      rw [he] at c0
      rw [hsn] at c1
      exact ⟨c0, c1, keep_cell hb (hrow _ _ hr) (hg (Nat.lt_of_le_of_lt (Nat.zero_le _) hj))⟩
    have hq : Int.tdiv (i : Int) (sn : Int) = ((i / sn : Nat) : Int) := by rw [Int.ofNat_tdiv]
    have hj' : ((i / sn : Nat) : Int) < (S.res.length : Int) := by omega
    clear h hA hh hp hrow he hr hg hil hj hsn
    generalize lmV S.fl = lm at *
    generalize S.res.length = nr at *
    generalize i / sn = j at *
    obtain ⟨b, m, gf, cf, gb, cb, vr⟩ := K
    try dsimp only at *
    go_enter Try.func23, Try.ntmps23
    go_upto_region 6 with (first
      | (go_at_call 22; refine HS.mono ?_; rintro e A ⟨rfl, rfl⟩)
      | (go_at_call 44; refine HLm.mono ?_; rintro e W3 ⟨rfl, b3⟩))
    clear hE HS HLm
    have hX3 := hX.keep b3
    have hw3 := ab_trans hw b3
    have hzb : w.heap.size < W3.heap.size := hX3.lt
    have hsn0 : ¬ sn = 0 := by omega
    have hwj : IntKind.i64.wrap (j : Int) = (j : Int) := by simp [IntKind.wrap, IntKind.signed, IntKind.bits] <;> omega
    refine region_L 14 (S := fun w' => Below W3.heap.size W3 w') (by kernel_rfl) (ab_drew (Below.refl _ _)) (fun hHeld => ?_)
    refine takeP (i := 0) (some 21) (by rfl) rfl rfl (by kernel_rfl) (by kernel_rfl) (by kernel_rfl) (fun _ _ _ h => h) (by rfl) (fun w => by go_simp; try rfl) hHeld ?_
    go_frame
    refine takeP (i := 1) (some 22) (by rfl) rfl rfl (by kernel_rfl) (by kernel_rfl) (by kernel_rfl) (fun _ _ _ h => h) (by rfl) (fun w => by go_simp; try rfl) hHeld ?_
    go_frame
    refine takeP (i := 2) (some 23) (by rfl) rfl rfl (by kernel_rfl) (by kernel_rfl) (by kernel_rfl) (fun _ _ _ h => h) (by rfl) (fun w => by go_simp; try rfl) hHeld ?_
    go_frame
    refine takeP (i := 3) (some 24) (by rfl) rfl rfl (by kernel_rfl) (by kernel_rfl) (by kernel_rfl) (fun _ _ _ h => h) (by rfl) (fun w => by go_simp; try rfl) hHeld ?_
    go_frame
    refine takeL (i := 4) [14] (some 25) (by rfl) rfl rfl (by kernel_rfl) (by kernel_rfl) (by kernel_rfl) (by kernel_rfl) (fun _ _ _ h => h) (by rfl) (fun w hSw => by (try dsimp only at hSw); (obtain ⟨q0, q1, q2⟩ := HC.out _ (ab_trans b3 hSw); go_simp; try rfl)) hHeld ?_
    go_frame
    refine takeP (i := 5) (some 26) (by rfl) rfl rfl (by kernel_rfl) (by kernel_rfl) (by kernel_rfl) (fun _ _ _ h => h) (by rfl) (fun w => by go_simp; try rfl) hHeld ?_
    go_frame
    refine takeP (i := 6) (some 27) (by rfl) rfl rfl (by kernel_rfl) (by kernel_rfl) (by kernel_rfl) (fun _ _ _ h => h) (by rfl) (fun w => by go_simp; try rfl) hHeld ?_
    go_frame
    refine takeP (i := 7) (some 28) (by rfl) rfl rfl (by kernel_rfl) (by kernel_rfl) (by kernel_rfl) (fun _ _ _ h => h) (by rfl) (fun w => by go_simp; try rfl) hHeld ?_
    go_frame
    refine takeP (i := 8) (some 29) (by rfl) rfl rfl (by kernel_rfl) (by kernel_rfl) (by kernel_rfl) (fun _ _ _ h => h) (by rfl) (fun w => by go_simp; try rfl) hHeld ?_
    go_frame
    refine takeL (i := 9) [14] (some 30) (by rfl) rfl rfl (by kernel_rfl) (by kernel_rfl) (by kernel_rfl) (by kernel_rfl) (fun _ _ _ h => h) (by rfl) (fun w hSw => by (try dsimp only at hSw); (obtain ⟨q0, q1, q2⟩ := HC.out _ (ab_trans b3 hSw); go_simp; try rfl)) hHeld ?_
    go_frame
    refine takeL (i := 10) [14] (some 31) (by rfl) rfl rfl (by kernel_rfl) (by kernel_rfl) (by kernel_rfl) (by kernel_rfl) (fun _ _ _ h => h) (by rfl) (fun w hSw => by (try dsimp only at hSw); (go_simp; try rfl)) hHeld ?_
    go_frame
    clear hwj hsn0 hq
    refine takeL (i := 11) [14] (some 32) (by rfl) rfl rfl (by kernel_rfl) (by kernel_rfl) (by kernel_rfl) (by kernel_rfl) (fun _ _ _ h => h) (by rfl) (fun w hSw => by (try dsimp only at hSw); (go_simp; try rfl)) hHeld ?_
    go_frame
    refine takeL (i := 12) [14] (some 33) (by rfl) rfl rfl (by kernel_rfl) (by kernel_rfl) (by kernel_rfl) (by kernel_rfl) (fun _ _ _ h => h) (by rfl) (fun w hSw => by (try dsimp only at hSw); (obtain ⟨q0, q1, q2⟩ := HC.out _ (ab_trans b3 hSw); go_simp; try rfl)) hHeld ?_
    go_frame
    refine anyL_ready (rs := [13]) (by kernel_rfl) (by simp) (AllL.cons rfl (fun K hK => ?_) AllL.nil)
    go_simp
    refine (closed_any lm r _ hmJ.1 hmJ.2 hr2).mono ?_
    rintro e W4 ⟨rfl, b4⟩
    show K _ _
    have hX4 := (hX3.keep hHeld).keep b4
    refine hK.out _ _ (ab_trans hHeld b4) (fun hHeld => ?_)
    clear hK K
    refine anyL_ready (rs := [14]) (by kernel_rfl) (by simp) (AllL.last rfl (by kernel_rfl) (fun K hK => ?_))
    rw [if_pos (by rfl)]
    refine stW none rfl rfl hX4 rfl rfl info_plc rfl (by simp [Value.oneCell']) fun W5 hX5 C5 => ?_
    refine hK.out _ _ ?_
    clear hK K
    refine anyL_ready (rs := [15]) (by kernel_rfl) (by simp) (AllL.free rfl (by kernel_rfl) (fun K hK => ?_))
    go_simp
    refine hK.out _ _ ?_
    clear hK K
    refine anyL_done (by kernel_rfl) ?_
    have hw5 := ab_chg (ab_trans hw3 hHeld) C5 (Nat.le_refl _)
    go_wp2_with fail
    exact bodyPost_ret (results_c2 rfl _ _ _ 24 _ (0, 0) _ _ rfl rfl hX5 Try.underlying24 rfl info_plc) rfl ⟨rfl, hw5⟩
end Go.Proofs.Ytogbhiklhcibdaa
namespace Go.Proofs.Ytogbhiklhcibdaa
open Go.RowKit Go.Maps
set_option linter.unusedVariables false
set_option maxRecDepth 100000

/-- Which of some names are a lane's, ahead of a place; their places. -/
def selK (lane : Int) (pt : Int × Int) (k : Kyy) : Bool := decide (k.1 = lane) && pl k.2.1 k.2.2 pt.1 pt.2
def plsK (lane : Int) (pt : Int × Int) (l : List Kyy) : List (Int × Int) := (l.filter (selK lane pt)).map fun k => k.2
theorem plsK_snoc (lane : Int) (pt : Int × Int) (l : List Kyy) (k : Kyy) : plsK lane pt (l ++ [k]) = plsK lane pt l ++ (if selK lane pt k = true then [k.2] else []) := by
  unfold plsK
  rw [List.filter_append, List.map_append]
  congr 1
  simp only [List.filter_cons, List.filter_nil]
  split <;> simp
theorem plsK_len (lane : Int) (pt : Int × Int) (l : List Kyy) : (plsK lane pt l).length ≤ l.length := by
  unfold plsK
  rw [List.length_map]
  exact List.length_filter_le _ _
/-- How far the range has come. -/
structure Aw (w W : World) (K : Bkk) (S : Bsn) (D : DataW Value) (r : Nat) (got rest : List Kyy) (cnt : Nat) : Prop where
  rg : ∃ left, W.ranges Try.prog 40 hldV K.m r S.ks.length D left cnt ∧ ∀ k, KyOk k → left (kyL k) = decide (k ∈ rest)
  pm : S.ks.Perm (got ++ rest)
  bl : Below w.heap.size w W
  nr : w.heap.size ≤ r
theorem Aw.keep {w W W' : World} {K : Bkk} {S : Bsn} {D : DataW Value} {r : Nat} {got rest : List Kyy} {cnt : Nat} (h : Aw w W K S D r got rest cnt) (hb : Below W.heap.size W W') : Aw w W' K S D r got rest cnt := by
  refine ⟨?_, h.pm, ab_trans h.bl hb, h.nr⟩
  obtain ⟨left, ⟨es, clock, since, seen, c0, h1, h2, h3, h4, h5, h6⟩, hl⟩ := h.rg
  have l1 : K.m < W.heap.size := (Array.getElem?_eq_some_iff.1 h1).1
  have l2 : r < W.heap.size := (Array.getElem?_eq_some_iff.1 h5).1
  exact ⟨left, ⟨es, clock, since, seen, c0, (hb.block _ l1).trans h1, h2, h3, h4, (hb.block _ l2).trans h5, h6⟩, hl⟩
theorem perm_move {ks got rest : List Kyy} {k : Kyy} (h : ks.Perm (got ++ rest)) (hk : k ∈ rest) : ks.Perm (got ++ [k] ++ rest.erase k) := by
  refine h.trans ?_
  rw [List.append_assoc]
  exact List.Perm.append_left got (List.perm_cons_erase hk)
set_option maxHeartbeats 2000000 in
theorem bacoll_any {B : Nat} {K : Bkk} {S : Bsn} (lane : Int) (pt : Int × Int) (w : World) (h : Bq w B K S) (Post : Ending → World → Prop)
    (hPost : ∀ (v : Value) (got : List Kyy) (W : World), S.ks.Perm got → EO E2 24 W w.heap.size v (plsK lane pt got) → Below w.heap.size w W →
      Calls Try.prog 66 #[v, .func (.func 67) #[] #[]] W fun e w' => e = .returned (.tuple #[]) ∧ Post (.returned v) w') :
    Calls Try.prog 57 #[bptr K, .int .i64 lane, Plc pt.1 pt.2] w Post := by
  obtain ⟨A, hE, hX, hw⟩ := blk1 w #[.int .i64 pt.1, .int .i64 pt.2] 24
  have hA := h.keep hw
  obtain ⟨-, -, -, -, -, c5⟩ := hA.cells A (Below.refl _ _)
  obtain ⟨D0, hO, hD⟩ := hA.ce
  rw [hD.sz] at hO
  have HK : Hid (∀ k ∈ S.ks, KyOk k) := fun k hk => (h.ok.kk k hk).1
  have hkl : S.ks.length ≤ 1024 := by have := h.ok.kl; have := h.ok.m1; omega
  have HD : Hid (Dm D0 S.ks S.cv) := hD
  have HND : Hid S.ks.Nodup := h.ok.nd
  clear h hA hD
  generalize hn : S.ks.length = n at *
  have HN : Hid (S.ks.length = n) := hn
  clear hn
  obtain ⟨b, m, gf, cf, gb, cb, vr⟩ := K
  obtain ⟨t0, t1⟩ := pt
  try dsimp only at *
  have HX : Hid (∀ V, Below A.heap.size A V → V.cell? ⟨w.heap.size, 0, none⟩ = some (.int .i64 t0) ∧ V.cell? ⟨w.heap.size, 1, none⟩ = some (.int .i64 t1)) := fun V hb => ⟨(hX.keep hb).at rfl, (hX.keep hb).at rfl⟩
  go_enter Try.func57, Try.ntmps57
  go_wp2_with (at_range; refine wpList_range_own _ rfl _ 81 rfl 40 61 keyed16 Try.underlying81 hldV m n D0 rfl hO ?_; intro w0 hrg0 hg0 hs0)
  go_frame
  have bg0 : Below A.heap.size A w0 := ⟨hg0.os, hg0.tape, hg0.output, hg0.size, fun i hi => hg0.block i hi (by simp)⟩
  have hA0 : Aw A w0 ⟨b, m, gf, cf, gb, cb, vr⟩ S D0 A.heap.size [] S.ks n := by
    refine ⟨⟨_, by rw [HN.out]; rw [HD.out.sz, HN.out] at hrg0; exact hrg0, fun k hk => HD.out.hs k hk⟩, List.Perm.refl _, bg0, Nat.le_refl _⟩
  have hE0 : EO E2 24 w0 A.heap.size (.slice none 0 0) (plsK lane (t0, t1) []) := eo_nil _ _ _ _
  clear hrg0 hg0 c5 hO hE hX hs0 bg0
  go_loopw [7, 17] (fun x _ wr => ∃ got rest cnt, Aw A wr ⟨b, m, gf, cf, gb, cb, vr⟩ S D0 A.heap.size got rest cnt ∧ EO E2 24 wr A.heap.size x (plsK lane (t0, t1) got)) (fun _ _ wr => wr.rangeLeft m A.heap.size)
  case atStart => exact ⟨_, _, _, hA0, hE0⟩
  case round =>
    clear hA0 hE0
    obtain ⟨got, rest, cnt, hW, hE0⟩ := hrel
    obtain ⟨left, hrg, hl⟩ := hW.rg
    rw [HN.out] at hrg
    have HW : Hid (Aw A wr ⟨b, m, gf, cf, gb, cb, vr⟩ S D0 A.heap.size got rest cnt) := hW
    clear hW
    obtain ⟨qx, cx, hxf⟩ := hE0.form
    subst hxf
    have hnn := Nat.le_trans (plsK_len lane (t0, t1) got) (show got.length ≤ n by have := HW.out.pm.length_eq; rw [HN.out, List.length_append] at this; omega)
    generalize hN2 : (plsK lane (t0, t1) got).length = nn at *
    go_wp2_with (at_next; refine wpList_next_ranges _ rfl _ rfl 40 keyed16 hldV (fun x : { k : Kyy // KyOk k } => kyV x.1) id ky_inv2 held_inv m A.heap.size n D0 left cnt rfl hrg ?_ ?_)
    · intro _ hl0
      have hre : rest = [] := by
        cases hr : rest with
        | nil => rfl
        | cons k t =>
          have hk : k ∈ rest := by rw [hr]; simp
          have hko := HK.out k (HW.out.pm.mem_iff.2 (List.mem_append_right _ hk))
          have h1 := hl k hko
          rw [hl0, decide_eq_true hk] at h1
          cases h1
      have hpm : S.ks.Perm got := by
        have := HW.out.pm
        rw [hre, List.append_nil] at this
        exact this
      have HP := hPost (.slice qx nn cx) got wr hpm (own_less hE0 hw.size) (ab_trans hw HW.out.bl)
      clear hrg hl HW hre hpm hPost
      go_wp2_with (go_at_call 66; refine HP.mono ?_; rintro e W2 ⟨rfl, hp⟩)
      exact hp
    · intro ka kb kc hk v kl yd yp w1 cnt1 hkey hlk hv hat hrg1 hlt hg1 hs1 hen
      have hW := HW.out
      obtain rfl : kl = kyL (ka, kb, kc) := by
        rw [key16 hk] at hkey
        exact (Option.some.inj hkey).symm
      have hmem : (ka, kb, kc) ∈ rest := by
        have h1 := hl _ hk
        rw [hlk] at h1
        exact of_decide_eq_true h1.symm
      have b1 : Below A.heap.size A w1 := by
        have hf : Frm (fun k => k = A.heap.size) A w1 := (frm_below (X := fun k => k = A.heap.size) hW.bl).young (frm_grown (X := fun k => k = A.heap.size) hg1 rfl) (fun k hk e => e)
        exact hf.below (Nat.le_refl _) (fun k hk => by omega)
      have hE1 : EO E2 24 w1 A.heap.size (.slice qx nn cx) (plsK lane (t0, t1) got) := by
        refine own_at hE0 fun g hg => hg1.block g (World.ownsRow.lt hE0 g hg).2 (fun e => ?_)
        injection e with e
        obtain ⟨es, clock, since, seen, c0, h1, h2, h3, h4, h5, h6⟩ := hrg
        obtain ⟨cur, fr, e3⟩ := own_kindR hE0 hg
        rw [e] at e3
        rw [h5] at e3
        cases e3
      have hN : Aw A w1 ⟨b, m, gf, cf, gb, cb, vr⟩ S D0 A.heap.size (got ++ [(ka, kb, kc)]) (rest.erase (ka, kb, kc)) cnt1 := by
        refine ⟨⟨_, by rw [HN.out]; exact hrg1, fun k hk' => ?_⟩, perm_move hW.pm hmem, b1, Nat.le_refl _⟩
        have hnd : rest.Nodup := (List.nodup_append.1 (hW.pm.nodup_iff.1 HND.out)).2.1
        rw [same_iff hk' hk, hl k hk']
        by_cases e : k = (ka, kb, kc)
        · subst e
          simp [hnd.not_mem_erase]
        · simp [e, List.mem_erase_of_ne e]
      have HPL : Hid (plsK lane (t0, t1) (got ++ [(ka, kb, kc)]) = plsK lane (t0, t1) got ++ (if selK lane (t0, t1) (ka, kb, kc) = true then [(kb, kc)] else [])) := plsK_snoc _ _ _ _
      have hlt' : Hid (∀ c', c' ≤ cnt1 → c' < cnt) := fun c' h => by show _ < _; omega
      have hleft := hrg.left_eq
      clear hW HW hlk hv hat hs1 hg1 hrg1 hl hE0 hkey hrg
      unfold kyV at hen
      try dsimp only at hen
      obtain ⟨A2, hE2, hX2, hw2⟩ := blk1 w1 #[.int .i64 ka, .int .i64 kb, .int .i64 kc] 40
      have y0 : A2.cell? ⟨w1.heap.size, 0, none⟩ = some (.int .i64 ka) := hX2.at rfl
      have y1 : A2.cell? ⟨w1.heap.size, 1, none⟩ = some (.int .i64 kb) := hX2.at rfl
      have y2 : A2.cell? ⟨w1.heap.size, 2, none⟩ = some (.int .i64 kc) := hX2.at rfl
      obtain ⟨x0, x1⟩ := HX.out A2 (ab_trans b1 hw2)
      have hE2' := hE1.keep hw2
      have hN2' := hN.keep hw2
      clear hE1 hN
      by_cases hla : ka = lane
      · have hl1 : (ka == lane) = true := by simp [hla]
        cases hp : pl kb kc t0 t1
        · have HS : Hid (selK lane (t0, t1) (ka, kb, kc) = false) := by show _ = _; unfold selK; dsimp only; rw [hp, Bool.and_false]
          have HPL' : Hid (plsK lane (t0, t1) (got ++ [(ka, kb, kc)]) = plsK lane (t0, t1) got) := by show _ = _; rw [HPL.out, if_neg (by rw [HS.out]; simp), List.append_nil]
          clear hla HS HPL
          go_wp2_with (go_at_call 24; refine (pless_any _ _ _ _ _).mono ?_; rintro e W2 ⟨rfl, b2⟩; rw [hp])
          have hN3 := hN2'.keep b2
          obtain ⟨left3, hr3, -⟩ := hN3.rg
          go_roundw
          case rel => exact ⟨_, _, _, hN3, by rw [HPL'.out]; exact hE2'.keep b2⟩
          case measure => rw [hr3.left_eq, hleft]; exact hlt'.out _ (Nat.le_refl _)
        · have HS : Hid (selK lane (t0, t1) (ka, kb, kc) = true) := by show _ = _; unfold selK; dsimp only; rw [hp, hla]; simp
          have HPL' : Hid (plsK lane (t0, t1) (got ++ [(ka, kb, kc)]) = plsK lane (t0, t1) got ++ [(kb, kc)]) := by show _ = _; rw [HPL.out, if_pos HS.out]
          clear hla HS HPL
          go_upto_region 6 with (go_at_call 24; refine (pless_any _ _ _ _ _).mono ?_; rintro e W2 ⟨rfl, b2⟩; rw [hp])
          have hN3 := hN2'.keep b2
          have hE3 := hE2'.keep b2
          have hX3 := hX2.keep b2
          have g1 : W2.cell? ⟨w1.heap.size, 1, none⟩ = some (.int .i64 kb) := hX3.at rfl
          have g2 : W2.cell? ⟨w1.heap.size, 2, none⟩ = some (.int .i64 kc) := hX3.at rfl
          clear hE2 y0 y1 y2 x0 x1 hN2' hE2' hX2 hw2
          obtain ⟨A3, hE3', hX3', hw3⟩ := blk1 W2 #[.int .i64 kb, .int .i64 kc] 24
          have hER : ER E2 A3 (.slice (some ⟨W2.heap.size, 0, none⟩) 1 1) [(kb, kc)] := EO.er (e := 24) (base := W2.heap.size) (eo_of (n := 1) (own_blkE (xs := E2.fl [(kb, kc)]) hX3' (Nat.le_refl _) rfl (by unfold maxLen; omega)))
          have hE4 := hE3.keep hw3
          have hN4 := hN3.keep hw3
          have hwW : Below A.heap.size A A3 := hN4.bl
          clear hE3 hN3 hX3 hX3' hw3
          go_wp2_with (at_builtin; refine app_e (E := E2) A rfl rfl Try.underlying73 infoPl2 rfl rfl hE4 rfl hER (by rw [hN2]; show nn + 1 ≤ _; omega) (by rw [hN2]; show (nn + 1) * 16 ≤ _; omega) hwW ?_; intro v5 W5 hE5 hw5 hg5; go_frame)
          have hN5 : Aw A W5 ⟨b, m, gf, cf, gb, cb, vr⟩ S D0 A.heap.size (got ++ [(ka, kb, kc)]) (rest.erase (ka, kb, kc)) cnt1 := by
            refine ⟨?_, hN4.pm, hw5, hN4.nr⟩
            obtain ⟨left', ⟨es, clock, since, seen, c0, h1, h2, h3, h4, h5, h6⟩, hl'⟩ := hN4.rg
            have l1 : m < A3.heap.size := (Array.getElem?_eq_some_iff.1 h1).1
            have l2 : A.heap.size < A3.heap.size := (Array.getElem?_eq_some_iff.1 h5).1
            have n1 : ∀ x o, A3.heap[x]? = some o → (∀ cur fr, o ≠ .cells cur 24 fr) → some x ≠ (Value.slice qx nn cx).ownBlock := fun x o hx ho e => by
              obtain ⟨cur, fr, e3⟩ := own_kindR hE4 e.symm
              rw [hx] at e3
              cases e3
              exact ho _ _ rfl
            exact ⟨left', ⟨es, clock, since, seen, c0, (hg5.block _ l1 (n1 _ _ h1 (fun _ _ h => by cases h))).trans h1, h2, h3, h4, (hg5.block _ l2 (n1 _ _ h5 (fun _ _ h => by cases h))).trans h5, h6⟩, hl'⟩
          obtain ⟨left3, hr3, -⟩ := hN5.rg
          go_roundw
          case rel => exact ⟨_, _, _, hN5, by rw [HPL'.out]; exact hE5⟩
          case measure => rw [hr3.left_eq, hleft]; exact hlt'.out _ (Nat.le_refl _)
      · have hl1 : (ka == lane) = false := by simp [hla]
        have HS : Hid (selK lane (t0, t1) (ka, kb, kc) = false) := by show _ = _; unfold selK; dsimp only; rw [decide_eq_false hla, Bool.false_and]
        have HPL' : Hid (plsK lane (t0, t1) (got ++ [(ka, kb, kc)]) = plsK lane (t0, t1) got) := by show _ = _; rw [HPL.out, if_neg (by rw [HS.out]; simp), List.append_nil]
        clear hla HS HPL
        obtain ⟨left3, hr3, -⟩ := hN2'.rg
        go_wp2_with fail
        go_roundw
        case rel => exact ⟨_, _, _, hN2', by rw [HPL'.out]; exact hE2'⟩
        case measure => rw [hr3.left_eq, hleft]; exact hlt'.out _ (Nat.le_refl _)
end Go.Proofs.Ytogbhiklhcibdaa
namespace Go.Proofs.Ytogbhiklhcibdaa
open Go.RowKit Go.Maps
set_option linter.unusedVariables false
set_option maxRecDepth 100000

theorem bains_one (q : Option Addr) (n cap : Nat) (fv : Value) (hn : n ≤ 1) (w : World) : Calls Try.prog 81 #[.slice q n cap, .int .i64 0, .int .i64 (n : Int), fv] w fun e w' => e = .returned (.tuple #[]) ∧ w' = w := by
  have h : n = 0 ∨ n = 1 := by omega
  rcases h with rfl | rfl
  all_goals
    go_enter Try.func81, Try.ntmps81
    go_wp2_with fail
    refine wp_loop_rounds 1 ?_
    rw [rounds_succ]
    go_wp2_with fail
    exact bodyPost_end (results_none rfl _ _ _) rfl ⟨rfl, rfl⟩
theorem bapdq_one (q : Option Addr) (n cap : Nat) (x : Int) (fv : Value) (hn : n ≤ 1) (w : World) : Calls Try.prog 74 #[.slice q n cap, .int .i64 0, .int .i64 (n : Int), .int .i64 x, fv] w fun e w' => e = .returned (.tuple #[]) ∧ w' = w := by
  have h : n = 0 ∨ n = 1 := by omega
  rcases h with rfl | rfl
  all_goals
    go_enter Try.func74, Try.ntmps74
    go_wp2_with fail
    refine wp_loop_rounds 1 ?_
    rw [rounds_succ]
    go_wp2_with (go_at_call 81; refine (bains_one _ _ _ _ (by omega) _).mono ?_; rintro e w ⟨rfl, rfl⟩)
    exact bodyPost_ret (results_none rfl _ _ _) rfl ⟨rfl, rfl⟩
theorem balen_one (n : Nat) (hn : n ≤ 1) (w : World) : Calls Try.prog 75 #[.int .u64 (n : Int)] w fun e w' => (∃ x : Int, e = .returned (.int .i64 x)) ∧ w' = w := by
  have h : n = 0 ∨ n = 1 := by omega
  rcases h with rfl | rfl
  all_goals
    go_enter Try.func75, Try.ntmps75
    go_wp2_with (go_in)
    go_ret
    exact ⟨⟨_, rfl⟩, rfl⟩
theorem basort_one (q : Option Addr) (n cap : Nat) (fv : Value) (hn : n ≤ 1) (w : World) : Calls Try.prog 66 #[.slice q n cap, fv] w fun e w' => e = .returned (.tuple #[]) ∧ w' = w := by
  go_enter Try.func66, Try.ntmps66
  go_wp2_with (first
    | (go_at_call 75; refine (balen_one _ hn _).mono ?_; rintro e w ⟨⟨x, rfl⟩, rfl⟩)
    | (go_at_call 74; refine (bapdq_one _ _ _ _ _ hn _).mono ?_; rintro e w ⟨rfl, rfl⟩))
  exact bodyPost_end (results_none rfl _ _ _) rfl ⟨rfl, rfl⟩
end Go.Proofs.Ytogbhiklhcibdaa
namespace Go.Proofs.Ytogbhiklhcibdaa
open Go.RowKit Go.Maps
set_option linter.unusedVariables false
set_option maxRecDepth 100000

theorem bafeed_nil (src fr la : Int) (q q2 : Option Addr) (n c n2 c2 : Nat) (w : World) : Calls Try.prog 17 #[.pointer none, .int .i64 src, .int .i64 fr, .int .i64 la, .slice q n c, .slice q2 n2 c2] w fun e w' => e = .returned (Err 2) ∧ w' = w := by
  go_enter Try.func17, Try.ntmps17
  go_wp2_with (go_at_call 39; refine (bhasS_nil _ _).mono ?_; rintro e W ⟨rfl, rfl⟩)
  go_ret
  exact ⟨rfl, rfl⟩
theorem babase_nil (n : Int) (w : World) : Calls Try.prog 8 #[.pointer none, .int .i64 n] w fun e w' => e = .returned (Plc 0 0) ∧ Below w.heap.size w w' := by
  obtain ⟨A, hE, hX, hw⟩ := blk1 w #[.int .i64 0, .int .i64 0] 24
  go_enter Try.func8, Try.ntmps8
  go_upto_region 2 with (go_at_call 22; refine (bhasL_nil _ _).mono ?_; rintro e W ⟨rfl, rfl⟩)
  clear hE
  go_wp2_with (refine st_blk rfl rfl hX rfl rfl info_plc rfl (by simp [Value.oneCell']) ?_; intro W2 hX2 C2)
  exact bodyPost_ret (results_cell_row rfl _ _ _ 24 _ (0, 0) _ rfl hX2 Try.underlying24 rfl info_plc) rfl ⟨rfl, ab_chg hw C2 (Nat.le_refl _)⟩
theorem is_one {W : World} {g : Nat} {x : Int} (h : Blk W g #[.int .i64 x] 3) : Is W (.slice (some ⟨g, 0, none⟩) 1 1) [x] := by
  refine ⟨some ⟨g, 0, none⟩, 1, g, 0, rfl, Nat.le_refl _, by omega, fun _ => rfl, fun _ => h.lt, fun j y hj => ?_⟩
  match j, hj with
  | 0, hj => simp at hj; subst hj; exact h.at rfl
  | j + 1, hj => simp at hj
theorem er_blk {α : Type} {E : En α} {e : TypeId} {W : World} {g n : Nat} {l : List α} {xs : Array Value} (h : Blk W g xs e) (hx : xs.toList = E.fl l) (hn : l.length = n) (hm : n ≤ 1000000) : ER E W (.slice (some ⟨g, 0, none⟩) n n) l := by
  subst hn
  refine ⟨some ⟨g, 0, none⟩, l.length, g, 0, rfl, Nat.le_refl _, by omega, fun _ => ⟨rfl, h.lt⟩, fun j u hu => ?_⟩
  rw [Nat.zero_add, h.cell, ← hu, ← hx]
  simp
theorem stay_young {α : Type} {E : En α} {K : Bkk} {w : World} {g n c o : Nat} {l : List α} (h : ER E w (.slice (some ⟨g, o, none⟩) n c) l) (hx : ∀ k, bkB K k → k < g) : Stay E K w (.slice (some ⟨g, o, none⟩) n c) l :=
  stay_out h (fun a n' c' e hk => by injection e with e1; injection e1 with e1; subst e1; exact absurd (hx _ hk) (Nat.lt_irrefl _))
def alO1 : Op5 := ⟨1, 1, 5, 1, 7⟩
def alO2 : Op5 := ⟨2, 2, 10, 0, 0⟩
def alS0 : Bsn := newBsn 1 [10] 1 9
theorem al_ks : (fdZ alS0 0 2 [lstP] [alO1, alO2]).ks = [(0, 0, 1)] := by kernel_rfl
theorem al_fl : (fdZ alS0 0 2 [lstP] [alO1, alO2]).fl = [⟨3, 10, true⟩] := by kernel_rfl
theorem al_ba : (fdZ alS0 0 2 [lstP] [alO1, alO2]).ba = [lstP] := by kernel_rfl
theorem al_res : (fdZ alS0 0 2 [lstP] [alO1, alO2]).res = [10] ∧ (fdZ alS0 0 2 [lstP] [alO1, alO2]).sh = 1 := ⟨by kernel_rfl, by kernel_rfl⟩
theorem al_e : tkE (fdR alS0 0 [lstP] [alO1, alO2]) = 0 := by kernel_rfl
theorem al_cv : (fdZ alS0 0 2 [lstP] [alO1, alO2]).cv (0, 0, 1) 0 = 1 := by kernel_rfl
theorem al_cls : clsP (fdZ alS0 0 2 [lstP] [alO1, alO2]) 0 = (1, -9223372036854775808) := by kernel_rfl
theorem al_lm : lmB (fdZ alS0 0 2 [lstP] [alO1, alO2]).fl = true := by kernel_rfl
theorem al_dr : (drpB (lifB (fdZ alS0 0 2 [lstP] [alO1, alO2]) 0 (1, -9223372036854775808))).ks = [] := by kernel_rfl
theorem al_new : newOK 1 [10] 1 9 = true := by decide
theorem al_form : fdF alS0 (0 : Nat) 1 2 [lstP] [alO1, alO2] := by
  refine ⟨by decide, by decide, by unfold wrap64; omega, ?_, ?_⟩
  · intro o ho
    simp at ho
    rcases ho with rfl | rfl <;> decide
  · simp [alO1, alO2]
theorem bld_pl (x y : Int) (w : World) : (Instr.buildSlice 73 1 #[(0, .agg #[.int .i64 x, .int .i64 y])]).run Try.prog w = .ok (.slice (some ⟨w.heap.size, 0, none⟩) 1 1) (w.alloc (.cells #[.int .i64 x, .int .i64 y] 24)) := bapl1 x y w
theorem bld_op2 (a b : Op5) (w : World) : (Instr.buildSlice 22 2 #[(0, opV a), (1, opV b)]).run Try.prog w = .ok (.slice (some ⟨w.heap.size, 0, none⟩) 2 2) (w.alloc (.cells #[.int .i64 a.s, .int .i64 a.k, .int .i64 a.t, .int .i64 a.y, .int .i64 a.v, .int .i64 b.s, .int .i64 b.k, .int .i64 b.t, .int .i64 b.y, .int .i64 b.v] 35)) := by kernel_rfl
end Go.Proofs.Ytogbhiklhcibdaa
namespace Go.Proofs.Ytogbhiklhcibdaa
open Go.RowKit
set_option linter.unusedVariables false
set_option maxRecDepth 100000

/-- A sample of a source, as its numbers. -/
def sxF (src : Int) (o : Op5) : Nat → Int := fun i => match i with | 0 => src | 1 => o.s | 2 => o.k | 3 => o.t | 4 => o.y | 5 => o.v | _ => 0
theorem one_sxF (src : Int) (o : Op5) : oneS (sxF src o) = oneF src o.s o.t o.v := rfl
/-- What was taken for a cell: the cell's name, the source, the sample. -/
abbrev Tok := Kyy × Int × Op5
def tkF (x : Tok) : Nat → Int := sxF x.2.1 x.2.2
def smK (T : List Tok) (k : Kyy) : List (Nat → Int) := (T.filter fun x => decide (x.1 = k)).map tkF
structure FitT (x : Tok) : Prop where
  k : KyOk x.1
  src : J64 x.2.1
  op : Fit5 x.2.2
theorem smK_append (T U : List Tok) (k : Kyy) : smK (T ++ U) k = smK T k ++ smK U k := by unfold smK; rw [List.filter_append, List.map_append]
theorem smK_len (T : List Tok) (k : Kyy) : (smK T k).length ≤ T.length := by unfold smK; rw [List.length_map]; exact List.length_filter_le _ _
theorem smK_nil {T : List Tok} {k : Kyy} (h : ∀ x ∈ T, x.1 ≠ k) : smK T k = [] := by
  unfold smK
  rw [List.filter_eq_nil_iff.2 (fun x hx => by simpa using h x hx)]
  rfl
theorem smK_ne {T : List Tok} {k : Kyy} {x : Tok} (hx : x ∈ T) (e : x.1 = k) : smK T k ≠ [] := by
  intro h
  have hm : tkF x ∈ smK T k := List.mem_map.2 ⟨x, List.mem_filter.2 ⟨hx, by simpa using e⟩, rfl⟩
  rw [h] at hm
  cases hm
theorem smK_fit {T : List Tok} {k : Kyy} (h : ∀ x ∈ T, FitT x) : ∀ s ∈ smK T k, Fit (s 0) ∧ Fit (s 1) ∧ Fit (s 3) ∧ Fit (s 5) := by
  intro s hs
  obtain ⟨x, hx, rfl⟩ := List.mem_map.1 hs
  have hf := h x (List.mem_filter.1 hx).1
  exact ⟨hf.src, hf.op.s, hf.op.t, hf.op.v⟩
theorem smK_filter {T : List Tok} {k : Kyy} {p : Kyy → Bool} : smK (T.filter fun x => p x.1) k = if p k = true then smK T k else [] := by
  unfold smK
  rw [List.filter_filter]
  by_cases c : p k = true
  · rw [if_pos c]
    congr 1
    apply List.filter_congr
    intro x _
    by_cases e : x.1 = k
    · simp [e, c]
    · simp [e]
  · rw [if_neg c, List.map_eq_nil_iff, List.filter_eq_nil_iff]
    intro x _ h
    simp only [Bool.and_eq_true, decide_eq_true_eq] at h
    obtain ⟨e, hp⟩ := h
    rw [e] at hp
    exact c hp
/-- A basin's cells are those of what was taken. -/
structure TkI (S : Bsn) (T : List Tok) : Prop where
  ks : ∀ k, k ∈ S.ks ↔ ∃ x ∈ T, x.1 = k
  cv : ∀ k, Eqv (S.cv k) (JL (smK T k))
  ft : ∀ x ∈ T, FitT x
theorem tki_new (n : Nat) (res : List Int) (sh mo : Int) : TkI (newBsn n res sh mo) [] := ⟨fun k => ⟨fun h => (by cases h), fun ⟨x, h, _⟩ => (by cases h)⟩, fun k => Eqv.refl _, fun x h => (by cases h)⟩
theorem tki_of {S S' : Bsn} {T : List Tok} (h : TkI S T) (h1 : S'.ks = S.ks) (h2 : S'.cv = S.cv) : TkI S' T := ⟨by rw [h1]; exact h.ks, by rw [h2]; exact h.cv, h.ft⟩
theorem eqv_join {a b c : Nat → Int} (h : Eqv a b) : Eqv (joinF [a, c]) (joinF [b, c]) := by
  rw [joinF2, joinF2, eqC_congr h (Eqv.refl zc)]
  split
  · exact Eqv.refl _
  · split
    · exact h
    · exact both_congr h (Eqv.refl _)
theorem tki_add {S : Bsn} {T : List Tok} (h : TkI S T) (k : Kyy) (src : Int) (o : Op5) (hl : T.length + 1 ≤ 2000) (hf : FitT (k, src, o)) : TkI (addB S (oneF src o.s o.t o.v) k) (T ++ [(k, src, o)]) := by
  refine ⟨fun j => ?_, fun j => ?_, fun x hx => ?_⟩
  · show j ∈ addK S.ks k ↔ _
    rw [mem_addK, h.ks]
    constructor
    · rintro (⟨x, hx, e⟩ | rfl)
      · exact ⟨x, by simp [hx], e⟩
      · exact ⟨(j, src, o), by simp, rfl⟩
    · rintro ⟨x, hx, e⟩
      rcases List.mem_append.1 hx with hx | hx
      · exact .inl ⟨x, hx, e⟩
      · rw [List.mem_singleton.1 hx] at e
        exact .inr e.symm
  · show Eqv (addC S.cv k (oneF src o.s o.t o.v) j) _
    unfold addC
    by_cases e : j = k
    · subst e
      rw [if_pos rfl, smK_append]
      have hone : smK [(j, src, o)] j = [sxF src o] := by simp [smK, tkF]
      rw [hone]
      have h1 := join_groups (smK T j) [sxF src o] (by have := smK_len T j; simp only [List.length_cons, List.length_nil]; omega) (fun s hs => (smK_fit h.ft s hs).2.2.2) (fun s hs => by rw [List.mem_singleton.1 hs]; exact hf.op.v)
      rw [JL_one, one_sxF] at h1
      exact (eqv_join (h.cv j)).trans h1
    · rw [if_neg e, smK_append]
      have hone : smK [(k, src, o)] j = [] := smK_nil (fun x hx => by rw [List.mem_singleton.1 hx]; exact fun e2 => e e2.symm)
      rw [hone, List.append_nil]
      exact h.cv j
  · rcases List.mem_append.1 hx with hx | hx
    · exact h.ft x hx
    · rw [List.mem_singleton.1 hx]; exact hf
def tokL (src : Int) (o : Op5) (l : List Kyy) : List Tok := l.map fun k => (k, src, o)
theorem tki_fold (src : Int) (o : Op5) (hs : J64 src) (ho : Fit5 o) : ∀ (l : List Kyy) (S : Bsn) (T : List Tok), TkI S T → (∀ k ∈ l, KyOk k) → T.length + l.length ≤ 2000 → TkI (l.foldl (fun U k => addB U (oneF src o.s o.t o.v) k) S) (T ++ tokL src o l)
  | [], S, T, h, _, _ => by simpa [tokL] using h
  | k :: l, S, T, h, hk, hl => by
    rw [List.length_cons] at hl
    rw [List.foldl_cons]
    have := tki_fold src o hs ho l _ _ (tki_add h k src o (by omega) ⟨hk k (by simp), hs, ho⟩) (fun j hj => hk j (by simp [hj])) (by rw [List.length_append, List.length_singleton]; omega)
    rw [show T ++ tokL src o (k :: l) = T ++ [(k, src, o)] ++ tokL src o l by simp [tokL]]
    exact this
theorem tki_pou {S : Bsn} {T : List Tok} (h : TkI S T) (hok : Okb S) (src : Int) (o : Op5) (hs : J64 src) (ho : Fit5 o) (hl : T.length + (idsB S o).length ≤ 2000) : TkI (pouB S src o) (T ++ tokL src o (idsB S o)) :=
  tki_fold src o hs ho _ _ _ h (fun k hk => (idsB_mem hok ho hk).1) hl
theorem tki_drp {S : Bsn} {T : List Tok} (h : TkI S T) : TkI (drpB S) (T.filter fun x => !pasB S.ba x.1) := by
  refine ⟨fun k => ?_, fun k => ?_, fun x hx => h.ft x (List.mem_filter.1 hx).1⟩
  · show k ∈ S.ks.filter (fun k => !pasB S.ba k) ↔ _
    rw [List.mem_filter, h.ks]
    constructor
    · rintro ⟨⟨x, hx, e⟩, hp⟩
      exact ⟨x, List.mem_filter.2 ⟨hx, by rw [e]; exact hp⟩, e⟩
    · rintro ⟨x, hx, e⟩
      obtain ⟨hx, hp⟩ := List.mem_filter.1 hx
      exact ⟨⟨x, hx, e⟩, by rw [← e]; exact hp⟩
  · show Eqv (kepC (S.ks.filter fun k => !pasB S.ba k) S.cv k) _
    rw [smK_filter (p := fun k => !pasB S.ba k)]
    unfold kepC
    by_cases c : (!pasB S.ba k) = true
    · rw [if_pos c]
      by_cases hk : k ∈ S.ks
      · rw [if_pos (List.mem_filter.2 ⟨hk, c⟩)]
        exact h.cv k
      · rw [if_neg (fun e => hk (List.mem_filter.1 e).1), smK_nil (fun x hx e => hk ((h.ks k).2 ⟨x, hx, e⟩))]
        exact Eqv.refl _
    · rw [if_neg c, if_neg (show ¬ k ∈ List.filter (fun k => !pasB S.ba k) S.ks from fun e => c (List.mem_filter.1 e).2)]
      exact Eqv.refl _
/-! ### In whatever order -/
theorem JL_cons (s : Nat → Int) (m : List (Nat → Int)) (h : m ≠ []) : Eqv (JL (s :: m)) (bothF (oneS s) (JL m)) := by
  have := JL_append [s] m (by simp) h
  rwa [JL_one] at this
theorem JL_perm {m k : List (Nat → Int)} (h : m.Perm k) : Eqv (JL m) (JL k) := by
  induction h with
  | nil => exact Eqv.refl _
  | cons x h ih =>
    rename_i l1 l2
    by_cases e : l1 = []
    · subst e
      rw [List.nil_perm.1 h]
      exact Eqv.refl _
    · have e2 : l2 ≠ [] := fun e2 => e (by rw [e2] at h; exact List.perm_nil.1 h)
      exact ((JL_cons x l1 e).trans (both_congr (Eqv.refl _) ih)).trans (JL_cons x l2 e2).symm
  | swap x y l =>
    by_cases e : l = []
    · subst e
      have h1 := JL_cons y [x] (by simp)
      have h2 := JL_cons x [y] (by simp)
      rw [JL_one] at h1 h2
      exact (h1.trans (both_comm _ _)).trans h2.symm
    · have h1 := (JL_cons y (x :: l) (by simp)).trans (both_congr (Eqv.refl _) (JL_cons x l e))
      have h2 := (JL_cons x (y :: l) (by simp)).trans (both_congr (Eqv.refl _) (JL_cons y l e))
      refine (h1.trans ?_).trans h2.symm
      refine (both_assoc (oneS y) (oneS x) (JL l)).symm.trans ?_
      exact (both_congr (both_comm _ _) (Eqv.refl _)).trans (both_assoc _ _ _)
  | trans _ _ ih1 ih2 => exact ih1.trans ih2
theorem smK_perm {T U : List Tok} (h : T.Perm U) (k : Kyy) : (smK T k).Perm (smK U k) := (h.filter _).map _
/-- Two basins that took the same, in whatever order. -/
theorem tki_same {S S' : Bsn} {T U : List Tok} (h : TkI S T) (h' : TkI S' U) (hp : T.Perm U) : (∀ k, k ∈ S.ks ↔ k ∈ S'.ks) ∧ ∀ k, Eqv (S.cv k) (S'.cv k) := by
  refine ⟨fun k => ?_, fun k => ((h.cv k).trans (JL_perm (smK_perm hp k))).trans (h'.cv k).symm⟩
  rw [h.ks, h'.ks]
  exact ⟨fun ⟨x, hx, e⟩ => ⟨x, hp.mem_iff.1 hx, e⟩, fun ⟨x, hx, e⟩ => ⟨x, hp.mem_iff.2 hx, e⟩⟩
end Go.Proofs.Ytogbhiklhcibdaa
namespace Go.Proofs.Ytogbhiklhcibdaa
open Go.RowKit
set_option linter.unusedVariables false
set_option maxRecDepth 100000

theorem drp_np {S : Bsn} (h : npB S) (hz : ∀ k, k ∉ S.ks → S.cv k = zc) : drpB S = S := by
  have h1 : (S.ks.filter fun k => !pasB S.ba k) = S.ks := List.filter_eq_self.2 fun k hk => by rw [h k hk]; rfl
  have h2 : kepC S.ks S.cv = S.cv := by
    funext k
    unfold kepC
    by_cases c : k ∈ S.ks
    · rw [if_pos c]
    · rw [if_neg c, hz k c]
  unfold drpB
  rw [h1, h2]
theorem pl_lst {p : Int × Int} (h : J64 p.1 ∧ J64 p.2) : pl p.1 p.2 lstP.1 lstP.2 = false := by
  unfold J64 at h
  unfold pl lstP
  apply decide_eq_false
  dsimp only
  omega
theorem mxP_lst {p : Int × Int} (h : J64 p.1 ∧ J64 p.2) : mxP p lstP = p := mxP_no (pl_lst h)
theorem zip_lst : ∀ (l c : List (Int × Int)), (∀ p ∈ l, J64 p.1 ∧ J64 p.2) → (∀ p ∈ c, p = lstP) → c.length = l.length → List.zipWith mxP l c = l
  | [], c, _, _, _ => by simp
  | p :: l, [], _, _, h => by simp at h
  | p :: l, q :: c, h1, h2, h3 => by
    rw [List.zipWith_cons_cons, h2 q (by simp), mxP_lst (h1 p (by simp)), zip_lst l c (fun x hx => h1 x (by simp [hx])) (fun x hx => h2 x (by simp [hx])) (by simpa using h3)]
theorem cut_lst {S : Bsn} (hok : Okb S) {cut : List (Int × Int)} (hl : cut.length = S.ba.length) (hc : ∀ p ∈ cut, p = lstP) : cutB S cut = S := by
  unfold cutB
  rw [zip_lst S.ba cut hok.bf hc hl]
/-- Fed with least cuts, nothing is dropped. -/
theorem fdR_lst {S : Bsn} (hok : Okb S) (hn : npB S) {cut : List (Int × Int)} (hl : cut.length = S.ba.length) (hc : ∀ p ∈ cut, p = lstP) (i : Nat) (ops : List Op5) : fdR S i cut ops = takB S i ops := by
  unfold fdR
  rw [cut_lst hok hl hc, drp_np hn hok.cz]
/-- All bases are least. -/
def allL (S : Bsn) : Prop := ∀ p ∈ S.ba, p = lstP
theorem allL_new (n : Nat) (res : List Int) (sh mo : Int) : allL (newBsn n res sh mo) := fun p hp => (List.mem_replicate.1 hp).2
theorem pas_lst {S : Bsn} (h : allL S) {k : Kyy} (hk : KyOk k) : pasB S.ba k = false := by
  unfold pasB
  cases hc : S.ba[k.1.toNat]? with
  | none => rfl
  | some c =>
    have := h c (List.mem_of_getElem? hc)
    subst this
    exact pl_lst hk.2
theorem np_lst {S : Bsn} (h : allL S) (hok : Okb S) : npB S := fun k hk => pas_lst h (hok.kk k hk).1
theorem ids_lst {S : Bsn} (h : allL S) (hok : Okb S) {o : Op5} (ho : Fit5 o) : idsB S o = idL o.t o.y S.sh S.res := by
  unfold idsB
  exact List.filter_eq_self.2 fun k hk => by rw [pas_lst h (ids_mem hok ho hk).1]; rfl
/-- What samples bring, where nothing is ahead of the bases. -/
def takQ (i : Nat) (sh : Int) (res : List Int) (ops : List Op5) : List Tok := (ops.filter fun o => decide (o.k ≠ 2)).flatMap fun o => tokL (i : Int) o (idL o.t o.y sh res)
theorem takQ_mark {i : Nat} {sh : Int} {res : List Int} {o : Op5} (l : List Op5) (h : o.k = 2) : takQ i sh res (o :: l) = takQ i sh res l := by
  unfold takQ
  rw [List.filter_cons, if_neg (by simp [h])]
theorem takQ_samp {i : Nat} {sh : Int} {res : List Int} {o : Op5} (l : List Op5) (h : o.k ≠ 2) : takQ i sh res (o :: l) = tokL (i : Int) o (idL o.t o.y sh res) ++ takQ i sh res l := by
  unfold takQ
  rw [List.filter_cons, if_pos (by simp [h]), List.flatMap_cons]
theorem takQ_append (i : Nat) (sh : Int) (res : List Int) (a b : List Op5) : takQ i sh res (a ++ b) = takQ i sh res a ++ takQ i sh res b := by
  unfold takQ
  rw [List.filter_append, List.flatMap_append]
theorem takQ_len (i : Nat) (sh : Int) (res : List Int) : ∀ (ops : List Op5), (takQ i sh res ops).length ≤ ops.length * res.length
  | [] => by simp [takQ]
  | o :: l => by
    have ih := takQ_len i sh res l
    rw [List.length_cons, Nat.add_mul, Nat.one_mul]
    by_cases h : o.k = 2
    · rw [takQ_mark l h]; omega
    · rw [takQ_samp l h, List.length_append, show (tokL (i : Int) o (idL o.t o.y sh res)).length = res.length by unfold tokL; rw [List.length_map, idL_len]]
      omega
structure LstI (S : Bsn) (T : List Tok) : Prop where
  ok : Okb S
  al : allL S
  tk : TkI S T
  few : S.ks.length ≤ T.length
theorem lst_new {n : Nat} {res : List Int} {sh mo : Int} (h : newOK (n : Int) res sh mo = true) (hr : ∀ r ∈ res, r ≤ 9223372036854775807) : LstI (newBsn n res sh mo) [] := ⟨okb_new h hr, allL_new _ _ _ _, tki_new _ _ _ _, Nat.le_refl _⟩
theorem LstI.np {S : Bsn} {T : List Tok} (h : LstI S T) : npB S := np_lst h.al h.ok
theorem LstI.pnc {S : Bsn} {T : List Tok} (h : LstI S T) (i : Nat) {t : Int} (ht : J64 t) : LstI (pncB S i t) T := by
  obtain ⟨h1, h2, h3, h4, h5, h6⟩ := pnc_same S i t
  exact ⟨okb_pnc h.ok ht, fun p hp => h.al p (by rw [← h4]; exact hp), tki_of h.tk h5 rfl, by rw [h5]; exact h.few⟩
theorem LstI.nxt {S : Bsn} {T : List Tok} (h : LstI S T) (i : Nat) {n : Int} (ht : J64 n) : LstI (nxtB S i n) T := by
  obtain ⟨h1, h2, h3, h4, h5, h6⟩ := nxt_same S i n
  exact ⟨okb_nxt h.ok ht, fun p hp => h.al p (by rw [← h4]; exact hp), tki_of h.tk h5 rfl, by rw [h5]; exact h.few⟩
theorem LstI.roo {S : Bsn} {T : List Tok} (h : LstI S T) (o : Op5) (hr : ((T.length + S.res.length : Nat) : Int) ≤ S.mo) : rooB S o = true := by
  unfold rooB
  apply decide_eq_true
  have h1 := misB_le S (idsB S o)
  have h2 := idsB_len S o
  have h3 := h.few
  omega
theorem LstI.pou {S : Bsn} {T : List Tok} (h : LstI S T) (src : Int) {o : Op5} (hs : J64 src) (ho : Fit5 o) (hr : ((T.length + S.res.length : Nat) : Int) ≤ S.mo) : LstI (pouB S src o) (T ++ tokL src o (idL o.t o.y S.sh S.res)) := by
  obtain ⟨h1, h2, h3, h4, h5⟩ := pou_same S src o
  have hi := ids_lst h.al h.ok ho
  have hm := h.ok.m1
  have hl : (idsB S o).length = S.res.length := by rw [hi, idL_len]
  have ht := tki_pou h.tk h.ok src o hs ho (by omega)
  rw [hi] at ht
  refine ⟨okb_pou h.ok ho hs (h.roo o hr), fun p hp => h.al p (by rw [← h5]; exact hp), ht, ?_⟩
  have h6 := fold_len (oneF src o.s o.t o.v) (idsB S o) S (idsB_nodup h.ok o)
  have h7 := misB_le S (idsB S o)
  have h8 := h.few
  have h9 : (pouB S src o).ks.length = S.ks.length + misB S (idsB S o) := h6
  rw [h9, List.length_append, show (tokL src o (idL o.t o.y S.sh S.res)).length = S.res.length by unfold tokL; rw [List.length_map, idL_len]]
  omega
/-- A row of operations is taken whole. -/
theorem tak_lst (i : Nat) (hs : J64 (i : Int)) : ∀ (ops : List Op5) (S : Bsn) (T : List Tok), LstI S T → (∀ o ∈ ops, Fit5 o) → ((T.length + ops.length * S.res.length : Nat) : Int) ≤ S.mo →
    (takB S i ops).2 = none ∧ LstI (takB S i ops).1 (T ++ takQ i S.sh S.res ops) ∧ StK S (takB S i ops).1
  | [], S, T, h, _, _ => ⟨rfl, by show LstI S (T ++ takQ i S.sh S.res []); rw [show takQ i S.sh S.res [] = [] from rfl, List.append_nil]; exact h, StK.refl S⟩
  | o :: l, S, T, h, hf, hl => by
    rw [List.length_cons, Nat.add_mul, Nat.one_mul] at hl
    have ho := hf o (by simp)
    unfold takB
    rw [List.foldl_cons]
    by_cases hk : o.k = 2
    · rw [stp_mark hk, takQ_mark l hk]
      have hS := stk_pnc S i o.t
      have := tak_lst i hs l (pncB S i o.t) T (h.pnc i ho.t) (fun x hx => hf x (by simp [hx])) (by rw [hS.res, hS.mo]; omega)
      rw [hS.sh, hS.res] at this
      exact ⟨this.1, this.2.1, hS.trans this.2.2⟩
    · have hr : ((T.length + S.res.length : Nat) : Int) ≤ S.mo := by omega
      rw [stp_pour hk (h.roo o hr), takQ_samp l hk]
      have hS := stk_pou S (i : Int) o
      have h2 := h.pou (i : Int) hs ho hr
      have := tak_lst i hs l (pouB S (i : Int) o) _ h2 (fun x hx => hf x (by simp [hx])) (by
        rw [hS.res, hS.mo, List.length_append, show (tokL (i : Int) o (idL o.t o.y S.sh S.res)).length = S.res.length by unfold tokL; rw [List.length_map, idL_len]]
        omega)
      rw [hS.sh, hS.res, List.append_assoc] at this
      exact ⟨this.1, this.2.1, hS.trans this.2.2⟩
/-- What Feed leaves, fed with least cuts. -/
theorem fd_lst {S : Bsn} {T : List Tok} (h : LstI S T) {i : Nat} (hs : J64 (i : Int)) {la : Int} {cut : List (Int × Int)} {ops : List Op5} (hl : cut.length = S.ba.length) (hc : ∀ p ∈ cut, p = lstP) (hf : ∀ o ∈ ops, Fit5 o) (hr : ((T.length + ops.length * S.res.length : Nat) : Int) ≤ S.mo) :
    tkE (fdR S i cut ops) = 0 ∧ fdZ S i la cut ops = nxtB (takB S i ops).1 i (wrap64 (la + 1)) ∧ LstI (fdZ S i la cut ops) (T ++ takQ i S.sh S.res ops) ∧ StK S (fdZ S i la cut ops) := by
  have h1 := fdR_lst h.ok h.np hl hc i ops
  obtain ⟨h2, h3, h4⟩ := tak_lst i hs ops S T h hf hr
  have hz : fdZ S i la cut ops = nxtB (takB S i ops).1 i (wrap64 (la + 1)) := by
    unfold fdZ tkN
    rw [h1, h2]
  refine ⟨by unfold tkE; rw [h1, h2], hz, ?_, ?_⟩
  · rw [hz]; exact h3.nxt i (by unfold J64 wrap64; omega)
  · rw [hz]; exact h4.trans (stk_nxt _ _ _)
end Go.Proofs.Ytogbhiklhcibdaa
