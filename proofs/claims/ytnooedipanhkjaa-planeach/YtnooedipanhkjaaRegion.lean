/-
  Regions that draw their order and whose calls may make memory: one walk in the order of the text, in the class of all worlds in which nothing below a mark has turned.
-/
import Derived.WalkKit
import Derived.Deep.QuietTactic
import Derived.BigQuiet
import Derived.WalkLawsBesides
import Derived.Deep.RegionHeld3
namespace Go.Proofs.Ytnooedipanhkjaa
set_option maxRecDepth 100000
open Go.RowKit
set_option linter.unusedVariables false

/-- A world in which nothing that lies in W has turned. -/
structure Cls (W : World) where
  val : World
  prop : Below W.heap.size W val

theorem cls_some (W : World) : Nonempty (Cls W) := ⟨⟨W, Below.refl _ _⟩⟩

theorem wp_region_below {P : Program} {id : Nat} {Q : Exit → Act → World → Prop} {a : Act} {w : World} {l : List Oper} (hm : P.follows .mixedOrders = true) (hB : Region.lexB .any l.toArray = true)
    (h : wpQuiet P l.toArray (fun w' => ∃ x : Cls w, w' = x.val) (fun a' => ∀ w', (∃ x : Cls w, w' = x.val) → Q .normal a' w') l a) : (Code.region id l.toArray true).wp P Q a w :=
  wp_region_quiet (C := fun w' => ∃ x : Cls w, w' = x.val) hm hB ⟨⟨w.drew, (Below.refl _ _).drew⟩, rfl⟩ (by simpa using h)

/-- A walk of what only reads is a walk of the text. -/
theorem wpList_of_quiet {P : Program} {ops : Array Oper} {C : World → Prop} {Qa : Act → Prop} {Q : Exit → Act → World → Prop} (h : ∀ a w, C w → Qa a → Q .normal a w) : ∀ (l : List Oper) (a : Act) (w : World), C w → wpQuiet P ops C Qa l a → wpList P ops Q l a w
  | [], a, w, hw, hh => wpList_nil (h a w hw hh)
  | o :: rest, a, w, hw, hh => by
    unfold wpQuiet at hh
    unfold wpList
    split
    · rename_i c
      rw [if_pos c] at hh
      exact .inl (Oper.wp_of_quiet hw (fun a w' hC hK => wpList_of_quiet h rest a w' hC hK) hh)
    · rename_i c
      rw [if_neg c] at hh
      exact wpList_of_quiet h rest _ w hw hh
/-- The same as wp_region_below for a region that draws no order. -/
theorem wp_text_below {P : Program} {id : Nat} {Q : Exit → Act → World → Prop} {a : Act} {w : World} {l : List Oper}
    (h : wpQuiet P l.toArray (fun w' => ∃ x : Cls w, w' = x.val) (fun a' => ∀ w', (∃ x : Cls w, w' = x.val) → Q .normal a' w') l a) : (Code.region id l.toArray false).wp P Q a w :=
  wp_region_lit (wpList_of_quiet (C := fun w' => ∃ x : Cls w, w' = x.val) (fun a w' hC hK => hK w' hC) l a w ⟨⟨w, Below.refl _ _⟩, rfl⟩ h)

theorem calls_below {P : Program} {f : FuncId} {args : Array Value} {W : World} {x : Cls W} {v : Value}
    (h : Calls P f args x.val fun e w' => e = .returned v ∧ Below x.val.heap.size x.val w') : Calls P f args x.val fun e w'' => e = .returned v ∧ ∃ y : Cls W, w'' = y.val :=
  h.mono fun _ w1 ⟨he, hb⟩ => ⟨he, ⟨w1, x.prop.trans (hb.mono x.prop.size)⟩, rfl⟩
theorem calls_drawn {P : Program} {f : FuncId} {args : Array Value} {W : World} {x : Cls W} {v : Value}
    (h : Calls P f args x.val fun e w' => e = .returned v ∧ ∃ n, w' = x.val.drewN n) : Calls P f args x.val fun e w'' => e = .returned v ∧ ∃ y : Cls W, w'' = y.val :=
  h.mono fun _ w1 ⟨he, n, hb⟩ => ⟨he, ⟨w1, hb ▸ below_drewN x.prop n⟩, rfl⟩
theorem calls_same {P : Program} {f : FuncId} {args : Array Value} {W : World} {x : Cls W} {v : Value}
    (h : Calls P f args x.val fun e w' => e = .returned v ∧ w' = x.val) : Calls P f args x.val fun e w'' => e = .returned v ∧ ∃ y : Cls W, w'' = y.val :=
  h.mono fun _ w1 ⟨he, hb⟩ => ⟨he, x, hb⟩
/-- A cell of W in a world of its class. -/
theorem cls_cell {W : World} {b o : Nat} {v : Value} (h : W.cell? ⟨b, o, none⟩ = some v) (hb : b < W.heap.size) (x : Cls W) : x.val.cell? ⟨b, o, none⟩ = some v := by
  rw [x.prop.cell (p := ⟨b, o, none⟩) hb]; exact h
/-- A cell that was there is there behind a call that turned nothing that was there. -/
theorem keep_cell {W w' : World} {b o : Nat} {v : Value} (hb : Below W.heap.size W w') (h : W.cell? ⟨b, o, none⟩ = some v) (hlt : b < W.heap.size) : w'.cell? ⟨b, o, none⟩ = some v := by
  rw [hb.cell (p := ⟨b, o, none⟩) hlt]; exact h
/-- An operation that yields one value in every world of the class. -/
theorem quiet_val {P : Program} {ops : Array Oper} {C : World → Prop} {Q : Act → Prop} {a : Act} {o : Oper} {rest : List Oper} (hw : Region.wanted o (yielded ops a.tmps) = true) (v : Value)
    (hr : ∀ w, C w → (execOp a.eval o).run P w = .ok (.value v) w) (h : wpQuiet P ops C Q rest (a.put o.dst v)) : wpQuiet P ops C Q (o :: rest) a := by
  unfold wpQuiet
  rw [if_pos hw]
  exact ⟨v, fun w hC => by unfold Oper.quietAt; rw [hr w hC]; exact ⟨rfl, rfl⟩, h⟩
/-- An operation that yields is taken first; where its value goes is said. -/
theorem takeH {P : Program} {md : Region.Mode} {ops : Array Oper} {Q : Exit → Act → World → Prop} {S : World → Prop} {i : Nat} {oi : Oper} {v : Value} {fuel : Nat} {listed : Array Bool} {a : Act} {w : World} (d : Option Tmp) (hi : ops[i]? = some oi) (hd : oi.dst = d)
    (hs : Region.noSelect ops = true) (hf : Region.free md ops listed i = true) (hr : (Region.ready md ops listed).contains i = true)
    (hQ : ∀ c a w, Q (.panic c) (a.put d v) w → Q (.panic c) a w) (hw : Region.wanted oi (yielded ops a.tmps) = true) (hy : ∀ w, S w → (execOp a.eval oi).run P w = .ok (.value v) w) (hS : S w)
    (h : wpAnyH P md ops Q S fuel (listed.setIfInBounds i true) (a.put d v) w) : wpAnyH P md ops Q S (fuel + 1) listed a w := by
  subst hd
  exact wpAnyH_take hi hs hf hr hQ (Or.inl ⟨hw, hy⟩) hS h
end Go.Proofs.Ytnooedipanhkjaa
