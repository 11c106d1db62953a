/-
  A world after new blocks and draws: 'extp w p' is w behind the steps of p, each a new block or a draw. A region that draws its order is walked once in the class of all such worlds. Plain facts on it; no condition.
-/
import Derived.WalkKit
import Derived.BigQuiet
namespace Go.Proofs.YtffbachgbcefiaaDoor
open Go.RowKit

def step1 (w : World) (o : Option (Array Value × TypeId)) : World :=
  match o with
  | some c => w.alloc (.cells c.1 c.2)
  | none => w.drew
def extp (w : World) (p : List (Option (Array Value × TypeId))) : World := p.foldl step1 w
def Ext (w w' : World) : Prop := ∃ p, w' = extp w p

theorem extp_append (w : World) (p q : List (Option (Array Value × TypeId))) : extp (extp w p) q = extp w (p ++ q) := by
  unfold extp; rw [List.foldl_append]
theorem extp_ext (w : World) (p : List (Option (Array Value × TypeId))) : Ext w (extp w p) := ⟨p, rfl⟩
theorem Ext.refl (w : World) : Ext w w := ⟨[], rfl⟩
theorem Ext.trans {a b c : World} (h : Ext a b) (k : Ext b c) : Ext a c := by
  obtain ⟨p, rfl⟩ := h
  obtain ⟨q, rfl⟩ := k
  exact ⟨p ++ q, extp_append a p q⟩
theorem Ext.drew {a b : World} (h : Ext a b) : Ext a b.drew := h.trans ⟨[none], rfl⟩
theorem Ext.alloc {a b : World} (h : Ext a b) (c : Array Value) (t : TypeId) : Ext a (b.alloc (.cells c t)) := h.trans ⟨[some (c, t)], rfl⟩
theorem Ext.ind {w : World} (R : World → Prop) (h0 : R w) (ha : ∀ w1 c t, R w1 → R (w1.alloc (.cells c t))) (hd : ∀ w1, R w1 → R w1.drew) {w' : World} (h : Ext w w') : R w' := by
  obtain ⟨p, rfl⟩ := h
  have key : ∀ (p : List (Option (Array Value × TypeId))) (w1 : World), R w1 → R (p.foldl step1 w1) := by
    intro p
    induction p with
    | nil => intro w1 h; exact h
    | cons a p ih =>
      intro w1 h
      cases a with
      | none => exact ih _ (hd w1 h)
      | some c => exact ih _ (ha w1 c.1 c.2 h)
  exact key p w h0
theorem Ext.grown {w w' : World} (h : Ext w w') : Grown w w' := h.ind (Grown w) (Grown.refl w) (fun _ c t k => k.alloc c t) (fun _ k => k.drew)
theorem Ext.below {w w' : World} (h : Ext w w') : Below w.heap.size w w' := h.ind (Below w.heap.size w) (Below.refl _ w) (fun _ _ _ k => k.alloc k.size _) (fun _ k => k.drew)
theorem Ext.size {w w' : World} (h : Ext w w') : w.heap.size ≤ w'.heap.size := h.below.size
theorem Ext.cell {w w' : World} (h : Ext w w') {b o : Nat} (hb : b < w.heap.size) : w'.cell? ⟨b, o, none⟩ = w.cell? ⟨b, o, none⟩ := h.below.cell (p := ⟨b, o, none⟩) hb
/-- a region that draws its order, in the class of the worlds beyond w. -/
theorem wp_region_ext {P : Program} {id : Nat} {Q : Exit → Act → World → Prop} {a : Act} {w : World} {l : List Oper} (hm : P.follows .mixedOrders = true) (hB : Region.lexB .any l.toArray = true)
    (h : wpQuiet P l.toArray (fun w' => ∃ p, w' = extp w p) (fun a' => ∀ w', (∃ p, w' = extp w p) → Q .normal a' w') l a) : (Code.region id l.toArray true).wp P Q a w :=
  wp_region_quiet (C := fun w' => ∃ p, w' = extp w p) hm hB ⟨[none], rfl⟩ (by simpa using h)
/-- a contract, met in such a world. -/
theorem ext_call {P : Program} {f : FuncId} {args : Array Value} {w : World} {p : List (Option (Array Value × TypeId))} {v : Value}
    (h : Calls P f args (extp w p) fun e w' => e = .returned v ∧ Ext (extp w p) w') : Calls P f args (extp w p) fun e w'' => e = .returned v ∧ ∃ p, w'' = extp w p :=
  h.mono fun _ _ ⟨he, q, hm⟩ => ⟨he, p ++ q, by rw [hm, extp_append]⟩
theorem ext_call_same {P : Program} {f : FuncId} {args : Array Value} {w : World} {p : List (Option (Array Value × TypeId))} {v : Value}
    (h : Calls P f args (extp w p) fun e w' => e = .returned v ∧ w' = extp w p) : Calls P f args (extp w p) fun e w'' => e = .returned v ∧ ∃ p, w'' = extp w p :=
  h.mono fun _ _ ⟨he, hm⟩ => ⟨he, p, hm⟩

end Go.Proofs.YtffbachgbcefiaaDoor
