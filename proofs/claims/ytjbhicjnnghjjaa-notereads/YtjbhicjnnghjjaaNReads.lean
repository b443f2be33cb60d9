/-
  Which bytes are a note's, and which error others are told: estuarylaw05.NoteReads returns true for every input; no condition.
-/
import Derived.Test.YtjbhicjnnghjjaaPk15
import Derived.Test.YtjbhicjnnghjjaaPk16
import Derived.Test.YtjbhicjnnghjjaaPk19
import Derived.Test.YtjbhicjnnghjjaaPk20
import Derived.ProofKit
import Derived.OpenShut
import Derived.ChangeOld
import Derived.Below
import Derived.Lib.SmallJoins
namespace Go.Proofs.Ytjbhicjnnghjjaa.noteReads
open Go.ChangeShapes Go.WideShapes Go.ChangeAt Go.RowKit Go.Joins
set_option linter.unusedVariables false

def zN : Nt := ⟨0, 0, 0, [], [], []⟩
theorem is_nil0 (W : World) : Is W (.slice none 0 0) [] := (io_nil W 0).is
/-- What note.Decode answers, in one form. -/
def Cl (b : List Nat) (er : Value) (N : Nt) : Prop := (¬ oneFr b ∧ er = Err 3 ∧ N = zN) ∨ (oneFr b ∧ NoB b ∧ er = Err 4 ∧ N = zN) ∨ (oneFr b ∧ er = .nilIface ∧ WN N ∧ GoodN N ∧ bysN N = b)
def Cl2 (b : List Nat) (fv : Int) (N : Nt) : Prop := (¬ oneFr b ∧ fv = 3 ∧ N = zN) ∨ (oneFr b ∧ NoB b ∧ fv = 4 ∧ N = zN) ∨ (oneFr b ∧ fv = 0 ∧ WN N ∧ GoodN N ∧ bysN N = b)
theorem dr_one {W : World} {base : Nat} {b : List Nat} {e : Ending} (h : DcP W base b e) : ∃ (er : Value) (N : Nt) (q1 : Option Addr) (n1 c1 : Nat) (q2 : Option Addr) (n2 c2 : Nat) (q3 : Option Addr) (n3 c3 : Nat), e = .returned (.tuple #[.agg #[.int .i64 N.k, .int .i64 N.f, .int .i64 N.t, .slice q1 n1 c1, .slice q2 n2 c2, .slice q3 n3 c3], er]) ∧
    Is W (.slice q1 n1 c1) N.ns ∧ SR 5 k64 W (.slice q2 n2 c2) N.os ∧ SR 76 ek W (.slice q3 n3 c3) N.es ∧ Cl b er N := by
  rcases h with ⟨h1, rfl⟩ | ⟨h1, h2, rfl⟩ | ⟨h1, N, vn, vo, ve, hW, hg, hb, rfl, On, Oo, Oe⟩
  · exact ⟨Err 3, zN, none, 0, 0, none, 0, 0, none, 0, 0, rfl, is_nil0 W, SR.nil _ _ _, SR.nil _ _ _, .inl ⟨h1, rfl, rfl⟩⟩
  · exact ⟨Err 4, zN, none, 0, 0, none, 0, 0, none, 0, 0, rfl, is_nil0 W, SR.nil _ _ _, SR.nil _ _ _, .inr (.inl ⟨h1, h2, rfl, rfl⟩)⟩
  · obtain ⟨q1, c1, rfl⟩ := On.form
    obtain ⟨q2, c2, rfl⟩ := Oo.form (by omega)
    obtain ⟨q3, c3, rfl⟩ := Oe.form (by omega)
    exact ⟨.nilIface, N, _, _, _, _, _, _, _, _, _, rfl, On.is, Oo.sr (by omega), Oe.sr (by omega), .inr (.inr ⟨h1, rfl, hW, hg, hb⟩)⟩
theorem rc_one {W : World} {base : Nat} {b : List Nat} {e : Ending} (h : RcP W base b e) : ∃ (fv : Int) (N : Nt) (q1 : Option Addr) (n1 c1 : Nat) (q2 : Option Addr) (n2 c2 : Nat) (q3 : Option Addr) (n3 c3 : Nat), e = .returned (.tuple #[.agg #[.int .i64 N.k, .int .i64 N.f, .int .i64 N.t, .slice q1 n1 c1, .slice q2 n2 c2, .slice q3 n3 c3], .int .i64 fv]) ∧
    Is W (.slice q1 n1 c1) N.ns ∧ SR 5 k64 W (.slice q2 n2 c2) N.os ∧ SR 76 ek W (.slice q3 n3 c3) N.es ∧ Cl2 b fv N := by
  rcases h with ⟨h1, rfl⟩ | ⟨h1, h2, rfl⟩ | ⟨h1, N, vn, vo, ve, hW, hg, hb, rfl, On, Oo, Oe⟩
  · exact ⟨3, zN, none, 0, 0, none, 0, 0, none, 0, 0, rfl, is_nil0 W, SR.nil _ _ _, SR.nil _ _ _, .inl ⟨h1, rfl, rfl⟩⟩
  · exact ⟨4, zN, none, 0, 0, none, 0, 0, none, 0, 0, rfl, is_nil0 W, SR.nil _ _ _, SR.nil _ _ _, .inr (.inl ⟨h1, h2, rfl, rfl⟩)⟩
  · obtain ⟨q1, c1, rfl⟩ := On.form
    obtain ⟨q2, c2, rfl⟩ := Oo.form (by omega)
    obtain ⟨q3, c3, rfl⟩ := Oe.form (by omega)
    exact ⟨0, N, _, _, _, _, _, _, _, _, _, rfl, On.is, Oo.sr (by omega), Oe.sr (by omega), .inr (.inr ⟨h1, rfl, hW, hg, hb⟩)⟩
theorem cl_join {b : List Nat} {er : Value} {fv : Int} {N M : Nt} (h : Cl b er N) (g : Cl2 b fv M) : SameN N M ∧ ∀ W, Calls Try.prog 14 #[er] W fun e w' => e = .returned (.int .i64 fv) ∧ W = w' := by
  rcases h with ⟨h1, rfl, rfl⟩ | ⟨h1, h2, rfl, rfl⟩ | ⟨h1, rfl, h2, h3, h4⟩
  · rcases g with ⟨g1, rfl, rfl⟩ | ⟨g1, g2, rfl, rfl⟩ | ⟨g1, rfl, g2, g3, g4⟩
    · exact ⟨SameN.refl _, fun W => (num_err 3 (by decide) W).mono fun e w' h => ⟨h.1, h.2.symm⟩⟩
    · exact absurd g1 h1
    · exact absurd g1 h1
  · rcases g with ⟨g1, rfl, rfl⟩ | ⟨g1, g2, rfl, rfl⟩ | ⟨g1, rfl, g2, g3, g4⟩
    · exact absurd h1 g1
    · exact ⟨SameN.refl _, fun W => (num_err 4 (by decide) W).mono fun e w' h => ⟨h.1, h.2.symm⟩⟩
    · exact absurd g4 (h2 M g2 g3)
  · rcases g with ⟨g1, rfl, rfl⟩ | ⟨g1, g2, rfl, rfl⟩ | ⟨g1, rfl, g2, g3, g4⟩
    · exact absurd h1 g1
    · exact absurd h4 (g2 N h2 h3)
    · exact ⟨bysN_inj h2 g2 h3 g3 (h4.trans g4.symm), fun W => (num_nil W).mono fun e w' h => ⟨h.1, h.2.symm⟩⟩
theorem rdecode_any (v : Value) (b : List Nat) (w : World) (hv : Sl w v b) (hb : Byt b) (hl : b.length ≤ 100000) :
    Calls Try.prog 20 #[v] w fun e w' => RcP w' w.heap.size b e ∧ Below w.heap.size w w' := by
  by_cases h : oneFr b
  · exact rdecode_one v b w hv hb hl h
  · exact rdecode_frame v b w hv hb hl h
set_option maxHeartbeats 4000000 in
set_option maxRecDepth 100000 in
theorem walk {W : World} (v0 : Value) (b : List Nat) (S0 : Sl W v0 b) (B0 : Byt b) :
    Calls Try.prog 4 #[v0] W fun e w' => e = .returned (.bool true) ∧ Below W.heap.size W w' := by
  obtain ⟨q0, c0, e0, -⟩ := id S0
  subst e0
  generalize hn : b.length = n at *
  go_enter Try.func4, Try.ntmps4
  go_upto_region 3 with (go_at_call 9; refine (alive5_any _).mono ?_; rintro e V1 ⟨rfl, b1⟩)
  by_cases hbig : 32768 < n
  · go_wp2_with fail
    go_ret
    exact ⟨rfl, b1⟩
  · have hdb : decide (32768 < (n : Int)) = false := decide_eq_false (by omega)
    go_upto_region 6 with (go_at_call 18; refine (copy_any _ b _ (S0.keep b1) (by omega)).mono ?_; rintro e V2 ⟨vc, rfl, cp, b2⟩)
    have bb2 := ab_trans b1 b2
    clear b1 hdb
    go_upto_region 7 with (go_at_call 19; refine (decode_any _ b _ cp.ow.sl B0 (by omega)).mono ?_; rintro e V3 ⟨hdc, b3⟩; obtain ⟨er, N, q1, n1, c1, q2, n2, c2, q3, n3, c3, rfl, i1, i2, i3, hcl⟩ := dr_one hdc; clear hdc)
    have hA3 := ab_alloc (Below.refl V3.heap.size V3) (.cells #[.int .i64 N.k, .int .i64 N.f, .int .i64 N.t, .slice q1 n1 c1, .slice q2 n2 c2, .slice q3 n3 c3] 26)
    have hB3 := Blk.new V3 #[.int .i64 N.k, .int .i64 N.f, .int .i64 N.t, .slice q1 n1 c1, .slice q2 n2 c2, .slice q3 n3 c3] 26
    have m1 := i1.keep hA3
    have m2 := i2.keep hA3
    have m3 := i3.keep hA3
    have cp4 := cp.keep (ab_trans b3 hA3)
    have bb4 := ab_trans bb2 (ab_trans b3 hA3)
    clear i1 i2 i3 cp b3 hA3 bb2 b2
    generalize V3.alloc (.cells #[.int .i64 N.k, .int .i64 N.f, .int .i64 N.t, .slice q1 n1 c1, .slice q2 n2 c2, .slice q3 n3 c3] 26) = V4 at *
    generalize V3.heap.size = B3 at *
    go_upto_region 8 with (go_at_call 20; refine (rdecode_any _ b _ (S0.keep bb4) B0 (by omega)).mono ?_; rintro e V5 ⟨hrc, b5⟩; obtain ⟨fv, M, r1, o1, d1, r2, o2, d2, r3, o3, d3, rfl, j1, j2, j3, hcl2⟩ := rc_one hrc; clear hrc)
    have hA5 := ab_alloc (Below.refl V5.heap.size V5) (.cells #[.int .i64 M.k, .int .i64 M.f, .int .i64 M.t, .slice r1 o1 d1, .slice r2 o2 d2, .slice r3 o3 d3] 26)
    have hB5 := Blk.new V5 #[.int .i64 M.k, .int .i64 M.f, .int .i64 M.t, .slice r1 o1 d1, .slice r2 o2 d2, .slice r3 o3 d3] 26
    have x1 := j1.keep hA5
    have x2 := j2.keep hA5
    have x3 := j3.keep hA5
    have b46 := ab_trans b5 hA5
    have y1 := m1.keep b46
    have y2 := m2.keep b46
    have y3 := m3.keep b46
    have hB6 := hB3.keep b46
    have cp6 := cp4.keep b46
    have bb6 := ab_trans bb4 b46
    have s6 := S0.keep bb6
    obtain ⟨hsame, hnum⟩ := cl_join hcl hcl2
    have HNum : Hid (∀ W, Calls Try.prog 14 #[er] W fun e w' => e = .returned (.int .i64 fv) ∧ W = w') := hnum
    clear j1 j2 j3 m1 m2 m3 hB3 cp4 bb4 b5 hA5 hcl hcl2 hnum b46
    generalize V5.alloc (.cells #[.int .i64 M.k, .int .i64 M.f, .int .i64 M.t, .slice r1 o1 d1, .slice r2 o2 d2, .slice r3 o3 d3] 26) = V6 at *
    generalize V5.heap.size = B5 at *
    obtain ⟨p0, p1, p2, p3, p4, p5, -, -, -, -, -, -⟩ := six hB6
    obtain ⟨z0, z1, z2, z3, z4, z5, -, -, -, -, -, -⟩ := six hB5
    go_wp2_with (first
      | (go_at_call 17; refine (rsame_any N M _ _ _ _ _ _ _ y1 y2 y3 x1 x2 x3).mono ?_; rintro e V7 ⟨hz7, b7⟩; obtain rfl := biff_true hz7 hsame; clear hz7)
      | (go_at_call 14; refine (HNum.out _).mono ?_; rintro e _ ⟨rfl, rfl⟩)
      | (go_at_call 21; refine (kept_any _ _ b _ _ (cp6.keep b7) (s6.keep b7) (by omega)).mono ?_; rintro e V8 ⟨rfl, h8⟩; subst h8))
    go_ret
    exact ⟨rfl, ab_trans bb6 b7⟩

theorem own : ownKnob Try.prog.godebug = none := by kernel_rfl
theorem laidOut : laidOutB Try.prog = true := by kernel_rfl

set_option maxRecDepth 100000 in
theorem lifted (os : Os) (started : os.Started) (H : Type) (enc : TypeId × Value → H) :
    ReturnsInHanded {} Try.checked os 4 .any (Rows.noteReadsSpec.pre6 enc Try.prog Try.f4 Rows.noteReadsRow.domain false) (Rows.noteReadsSpec.post enc Try.prog Try.f4 false true false false) := by
  refine returnsInHanded_of_change (C := Try.checked) own started (by kernel_rfl) Try.func4
    (ChangeSpec.witness6 (enc := enc) (C := Try.checked) false ⟨#[], #[.slice none 0 0], []⟩ 8 (by kernel_rfl) (by kernel_rfl) (by kernel_rfl) (by kernel_rfl)) ?_
  intro W base args ds gs before hval0 hW hcnd _
  have hval : ∀ (j : Nat) t v, Try.f4.params[j]? = some t → args[j]? = some v → Value.okWide Try.prog W .any base t v := hval0
  have hW' := hW
  obtain ⟨p, q, hA0, hV, rfl, hfz, hnd⟩ := hW
  have hA : DataW.TrodAll enc Try.prog W 0 (fun _ => true) true Try.f4.params.toList args.toList ds p := hA0
  rw [Try.params4] at hA hval
  obtain ⟨v0, vs0, d0, ds0, p0, q0, hargs, rfl, rfl, h0, r0⟩ := trodAll_cons hA
  obtain ⟨rfl, rfl, rfl⟩ := trodAll_nil r0
  obtain rfl : args = #[v0] := by cases args; simp_all
  obtain ⟨rfl, rfl⟩ := trodVars_none hV
  have k0 := h0
  have lt0 : ∀ x ∈ p0, x.block < W.heap.size := by obtain ⟨m, hm⟩ := k0; exact DataW.trod_lt m _ _ _ hm
  obtain ⟨l0_, S0_, B0_⟩ := open_bytes (hval 0 30 v0 rfl rfl) h0
  clear hA0 hval0
  refine (walk v0 l0_ S0_ B0_).mono fun e W' ⟨he, bel⟩ => ?_
  subst he
  exact ⟨_, rfl, _, _, _, [], _, [], hW', trodAll_mk1 (shut_bool Try.underlying4 _), (trodAll_cons_mk (Below.trod laidOut (by kernel_rfl) (of_decide_eq_true (by kernel_rfl)) k0 bel lt0) trodAll_mk0), rfl, bel.frame _, fun h => by cases h⟩

theorem over : Rows.noteReadsRow.holds Try.pinned (OpenSpec.ofChange Rows.noteReadsSpec) :=
  OpenClaim.holds_of_wide 4 Try.f4 rfl rfl rfl rfl rfl rfl rfl ⟨rfl, rfl, rfl, rfl, rfl⟩ rfl rfl rfl rfl rfl (by kernel_rfl) Try.func4 (by kernel_rfl)
    (of_decide_eq_true (by kernel_rfl)) (by unfold Func.isWrapper; first | (rw [if_pos (by decide +kernel)]; kernel_rfl) | (rw [if_neg (by decide +kernel)]; exact ⟨rfl, rfl⟩))
    (fun os started H enc _ => lifted os started H enc)

theorem proved : Rows.NoteReadsSaid := over
end Go.Proofs.Ytjbhicjnnghjjaa.noteReads
namespace Go.Proofs.Ytjbhicjnnghjjaa
theorem noteReads_holds : Rows.NoteReadsSaid := noteReads.proved
#print axioms noteReads_holds
end Go.Proofs.Ytjbhicjnnghjjaa
